/- Contracts of key.Put: its closure, the laying of a part, the whole. -/
import Derived.Test.YtpiojnphbanggaaKeyNum
namespace Go.Proofs.Ytpiojnphbanggaa.KeyPut
open Go.RowKit KeyPlain Base

theorem el_bytes : Elem Try.prog 66 5 1 := elem_mk Try.underlying66 (z := .int .u8 0) (by kernel_rfl) rfl

/-- so much was told to the variable in block b: nothing that was there in w0 has changed -/
def Told (w0 : World) (b : Nat) (l : List UInt8) (w : World) : Prop :=
  w0.heap.size ≤ b ∧ b < w.heap.size ∧ Below w0.heap.size w0 w ∧ ∃ A c, w.heap[b]? = some (.cells #[.slice A l.length c] 66 (0, 0)) ∧ Own w (b + 1) 5 A c (bv l)

theorem told_step {w0 w w1 : World} {b c c' : Nat} {l : List UInt8} {x : UInt8} {A A' : Option Addr} {o : Obj} (h0 : w0.heap.size ≤ b) (hlt : b < w.heap.size) (hb : Below w0.heap.size w0 w)
    (hblk : w.heap[b]? = some (.cells #[.slice A l.length c] 66 (0, 0))) (hown : Own w (b + 1) 5 A c (bv l))
    (hown' : Own w1 (b + 1) 5 A' c' (bv l ++ [.int .u8 (x.toNat : Int)])) (hg : (w.alloc o).grownBy w1 (Value.slice A (bv l).length c).ownBlock) :
    Told w0 b (l ++ [x]) (w1.setCell ⟨b, 0, none⟩ (.slice A' (l.length + 1) c')) := by
  have hne : some b ≠ (Value.slice A (bv l).length c).ownBlock := fun e => by
    have := (hown.block b e.symm).1
    omega
  have hs : (w.alloc o).heap.size ≤ w1.heap.size := hg.size
  have hs1 : w.heap.size < (w.alloc o).heap.size := by simp
  have hblk1 : w1.heap[b]? = some (.cells #[.slice A l.length c] 66 (0, 0)) := (hg.block b (by omega) hne).trans ((Below.heap_alloc w o b hlt).trans hblk)
  have hb1 : Below w0.heap.size w0 w1 := (hown.alloc o).below (hb.alloc (by omega) o) hg (by omega) (by omega)
  refine ⟨h0, by simp [World.setCell]; omega, hb1.setCell h0 _, A', c', ?_, ?_⟩
  · simp [World.setCell, Array.getElem?_modify, hblk1]
  · have := ownsRow_setCell_below hown' (a := ⟨b, 0, none⟩) (by simp) (.slice A' (l.length + 1) c')
    simpa [Own, bv] using this

theorem told_cell {w w1 : World} {b c : Nat} {l : List UInt8} {A : Option Addr} {o : Obj} (hlt : b < w.heap.size)
    (hblk : w.heap[b]? = some (.cells #[.slice A l.length c] 66 (0, 0))) (hown : Own w (b + 1) 5 A c (bv l))
    (hg : (w.alloc o).grownBy w1 (Value.slice A (bv l).length c).ownBlock) : w1.cell? ⟨b, 0, none⟩ = some (.slice A l.length c) ∧ w1.frozen? ⟨b, 0, none⟩ = false := by
  have hne : some b ≠ (Value.slice A (bv l).length c).ownBlock := fun e => by
    have := (hown.block b e.symm).1
    omega
  have hs1 : w.heap.size < (w.alloc o).heap.size := by simp
  have hblk1 : w1.heap[b]? = some (.cells #[.slice A l.length c] 66 (0, 0)) := (hg.block b (by omega) hne).trans ((Below.heap_alloc w o b hlt).trans hblk)
  exact ⟨by simp [World.cell?, hblk1], by simp [World.frozen?, hblk1]⟩

set_option maxHeartbeats 400000 in
theorem Put1_any (x : UInt8) (w0 w : World) (b : Nat) (l : List UInt8) (ht : Told w0 b l w) (hl : l.length ≤ 1000000) :
    Calls Try.prog 59 #[.int .u8 (x.toNat : Int), .pointer (some ⟨b, 0, none⟩)] w fun e w' => e = .returned (.tuple #[]) ∧ Told w0 b (l ++ [x]) w' := by
  obtain ⟨h0, hlt, hb, A, c, hblk, hown⟩ := ht
  have hc : w.cell? ⟨b, 0, none⟩ = some (.slice A l.length c) := by simp [World.cell?, hblk]
  have hrow : Row (w.alloc (.cells #[.int .u8 (x.toNat : Int)] 5)) (w.heap.size + 1) (some ⟨w.heap.size, 0, none⟩) [.int .u8 (x.toNat : Int)] := row_of_block (heap_alloc_new w (.cells #[.int .u8 (x.toNat : Int)] 5))
  have HB := Lib.hid hblk
  clear hblk
  go_enter Try.func59, Try.ntmps59
  go_wp2_with (at_builtin; refine wpList_append_row rfl (.tmp 3) (.tmp 5) 66 rfl el_bytes (A := A) (c := c) (n := l.length) (m := 1) (xs := bv l) rfl (bv_len l).symm (hown.alloc _) rfl rfl hrow (by simp [Value.oneCell']) (by simp [bv_len, maxLen]; omega) (by simp [bv_len]; omega) (by simp; omega) ?_; intro A' c' w1 hown' hg; obtain ⟨hc1, hf1⟩ := told_cell hlt HB.out hown hg)
  go_end0
  exact ⟨rfl, told_step h0 hlt hb HB.out hown hown' hg⟩

/-- the closure that tells bytes to the variable in block b -/
def teller (b : Nat) : Value := .func (.func 59) #[] #[.pointer (some ⟨b, 0, none⟩)]

set_option maxHeartbeats 400000 in
theorem lay_any (s : ByteArray) (w0 w : World) (b : Nat) (l : List UInt8) (ht : Told w0 b l w) (hl : l.length + 2 * s.size + 2 ≤ 1000000) :
    Calls Try.prog 60 #[.string s, .func (.func 59) #[] #[.pointer (some ⟨b, 0, none⟩)]] w fun e w' => e = .returned (.tuple #[]) ∧ Told w0 b (l ++ kpart s.data.toList) w' := by
  go_enter Try.func60, Try.ntmps60
  go_wp2_with fail
  go_loopw [7] (fun i wr => ∃ k : Nat, k ≤ s.size ∧ i = .int .i64 k ∧ Told w0 b (l ++ esc (s.data.toList.take k)) wr) (fun i _ => s.size - (intOf i).toNat)
  case atStart => exact ⟨0, by omega, rfl, by simpa [esc] using ht⟩
  case round =>
    obtain ⟨k, hk, rfl, hT⟩ := hrel
    have hel := esc_take_len s k
    by_cases h1 : k < s.size
    · by_cases hz : s[k] = 0
      · have HE := Lib.hid (esc_zero s k h1 hz)
        have hzb : ((s[k].toNat : Int) == 0) = true := by simp [hz]
        have HZ := Lib.hid hz
        clear hz
        generalize esc (s.data.toList.take k) = el at *
        go_wp2_with fail
        refine (Put1_any _ w0 _ b _ hT (by simp; omega)).mono ?_
        rintro e w1 ⟨rfl, hT1⟩
        go_wp2_with fail
        refine (Put1_any 255 w0 _ b _ hT1 (by simp; omega)).mono ?_
        rintro e w2 ⟨rfl, hT2⟩
        rw [HZ.out] at hT2
        go_wp2_with fail
        go_roundw
        case rel => exact ⟨k + 1, by omega, by go_num, by rw [HE.out]; simpa using hT2⟩
        case measure => simp [intOf]; omega
      · have HE := Lib.hid (esc_other s k h1 hz)
        have hzb : ((s[k].toNat : Int) == 0) = false := by
          have := toNat_beq s[k] 0
          simpa [hz] using this
        clear hz
        generalize esc (s.data.toList.take k) = el at *
        go_wp2_with fail
        refine (Put1_any _ w0 _ b _ hT (by simp; omega)).mono ?_
        rintro e w1 ⟨rfl, hT1⟩
        go_wp2_with fail
        go_roundw
        case rel => exact ⟨k + 1, by omega, by go_num, by rw [HE.out]; simpa using hT1⟩
        case measure => simp [intOf]; omega
    · have HT := Lib.hid (show s.data.toList.take k = s.data.toList from List.take_of_length_le (by rw [ba_len]; omega))
      have HP := Lib.hid (show kpart s.data.toList = esc s.data.toList ++ [0] ++ [0] by simp [kpart])
      rw [HT.out] at hT hel
      generalize esc s.data.toList = el at *
      go_wp2_with fail
      refine (Put1_any 0 w0 _ b _ hT (by simp; omega)).mono ?_
      rintro e w1 ⟨rfl, hT1⟩
      go_wp2_with fail
      refine (Put1_any 0 w0 _ b _ hT1 (by simp; omega)).mono ?_
      rintro e w2 ⟨rfl, hT2⟩
      go_wp2_with fail
      go_end0
      exact ⟨rfl, by rw [HP.out]; simpa using hT2⟩

theorem take_len_le (ps : List ByteArray) (k : Nat) (hk : k < ps.length) : (kput (lst (ps.take k))).length + ps[k].size ≤ (kput (lst ps)).length := by
  have h : ps = ps.take k ++ ps[k] :: ps.drop (k + 1) := by rw [List.getElem_cons_drop, List.take_append_drop]
  have e : (esc ps[k].data.toList).length ≥ ps[k].size := by
    have : ∀ l : List UInt8, l.length ≤ (esc l).length := by
      intro l
      induction l with
      | nil => simp
      | cons c l ih => by_cases h : c = 0 <;> simp [esc, h] <;> omega
    have := this ps[k].data.toList
    rwa [ba_len] at this
  have h2 : (kput (lst ps)).length = (kput (lst (ps.take k ++ ps[k] :: ps.drop (k + 1)))).length := by rw [← h]
  rw [h2]
  simp only [lst, List.map_append, List.map_cons, kput_append, kput, kpart, List.length_append]
  omega
theorem take_kput (ps : List ByteArray) (k : Nat) (hk : k < ps.length) : kput (lst (ps.take (k + 1))) = kput (lst (ps.take k)) ++ kpart ps[k].data.toList := by
  rw [List.take_succ_eq_append_getElem hk, lst, List.map_append, kput_append]
  simp [lst, kput]

set_option maxHeartbeats 400000 in
theorem Put_any (A : Option Addr) (c : Nat) (ps : List ByteArray) (w : World) (hr : Row w w.heap.size A (ps.map .string)) (hn : ps.length ≤ maxLen) (hsz : (kput (lst ps)).length ≤ 300000) :
    Calls Try.prog 55 #[.slice A ps.length c] w fun e w' => e = .returned (.string ⟨(kput (lst ps)).toArray⟩) ∧ Below w.heap.size w w' := by
  unfold maxLen at hn
  have h0 : Told w w.heap.size [] (w.alloc (.cells #[.slice none 0 0] 66)) :=
    ⟨Nat.le_refl _, by simp, (Below.refl _ _).alloc (Nat.le_refl _) _, none, 0, heap_alloc_new w _, Own.nil _ _ _⟩
  go_enter Try.func55, Try.ntmps55
  go_wp2_with fail
  go_loopw [10] (fun i wr => ∃ k : Nat, k ≤ ps.length ∧ i = .int .i64 k ∧ Told w w.heap.size (kput (lst (ps.take k))) wr) (fun i _ => ps.length - (intOf i).toNat)
  case atStart => exact ⟨0, by omega, rfl, by simpa [lst, kput] using h0⟩
  case round =>
    obtain ⟨k, hk, rfl, hT⟩ := hrel
    clear h0
    by_cases h1 : k < ps.length
    · have HK := Lib.hid (take_kput ps k h1)
      have hle := take_len_le ps k h1
      obtain ⟨ad, rfl, hb, hc⟩ := (hr.below hT.2.2.1).get k (by simpa using h1)
      simp only [List.getElem_map] at hc
      generalize kput (lst (ps.take k)) = l at *
      go_wp2_with (go_at_call 60; refine (lay_any _ w _ _ _ hT (by omega)).mono ?_; rintro e w1 ⟨rfl, hT1⟩)
      go_roundw
      case rel => exact ⟨k + 1, by omega, by go_num, by rw [HK.out]; exact hT1⟩
      case measure => simp [intOf]; omega
    · have HT := Lib.hid (show ps.take k = ps from List.take_of_length_le (by omega))
      rw [HT.out] at hT
      obtain ⟨_, _, hb, A2, c2, hblk, hown⟩ := hT
      have hcell : wr.cell? ⟨w.heap.size, 0, none⟩ = some (.slice A2 (kput (lst ps)).length c2) := by simp [World.cell?, hblk]
      have hconv := conv_bytes (P := Try.prog) Try.underlying66 Try.underlying5 Try.underlying9 c2 hown.row
      clear hblk hown
      go_wp2_with fail
      go_ret
      exact ⟨rfl, hb⟩
end Go.Proofs.Ytpiojnphbanggaa.KeyPut
