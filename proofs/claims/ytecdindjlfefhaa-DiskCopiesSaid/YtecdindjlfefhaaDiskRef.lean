/- The document's disk: contracts of Zeros, with, over, torn. -/
import Derived.Test.YtecdindjlfefhaaDiskSyncs
import Derived.Deep.QuietTactic
import Derived.BigQuiet
namespace Go.Proofs.Ytecdindjlfefhaa.DiskRef
open Go.RowKit Base DiskPlain DiskMem DiskSmall DiskRead DiskGrow DiskWrite DiskSync DiskCrash DiskSpoil DiskCopy DiskLaw DiskDo DiskPlumb DiskTwo DiskGrows DiskSim DiskSyncs Go.Maps

/-- bytes as a text -/
def tx (l : Pg) : ByteArray := ⟨l.toArray⟩
theorem tx_size (l : Pg) : (tx l).size = l.length := by simp [tx, ByteArray.size]
theorem tx_data (l : Pg) : (tx l).data.toList = l := by simp [tx]
theorem tx_of (s : ByteArray) : tx s.data.toList = s := by cases s; simp [tx]
theorem zeros_any (w : World) : Calls Try.prog 27 #[] w fun e w' => e = .returned (.string (tx zeros)) ∧ w' = w.alloc (.cells zrow 5) := by
  have hmk := mk_run
  have hcv := conv_page (w := w.alloc (.cells zrow 5)) (b := w.heap.size) (l := zeros) zeros_len (heap_alloc_new w _) 256
  have e : (⟨zeros.toArray⟩ : ByteArray) = tx zeros := rfl
  rw [e] at hcv
  generalize tx zeros = s at *
  generalize zrow = Z at *
  clear e
  go_enter Try.func27, Try.ntmps27
  go_wp2_with fail
  go_ret
  exact ⟨rfl, rfl⟩
theorem elem_str : Elem Try.prog 28 9 16 := elem_mk (z := .string .empty) Try.underlying28 (by kernel_rfl) rfl
/-- a row of cells in blocks of R -/
def RowR (w : World) (R : Nat → Prop) (A : Option Addr) (vs : List Value) : Prop := ∀ k v, vs[k]? = some v → ∃ ad, A = some ad ∧ R ad.block ∧ ad.block < w.heap.size ∧ w.cell? (ad.add k) = some v
theorem RowR.row {w : World} {R : Nat → Prop} {A : Option Addr} {vs : List Value} (h : RowR w R A vs) : Row w w.heap.size A vs := fun k v hv => by
  obtain ⟨ad, e, _, h1, h2⟩ := h k v hv
  exact ⟨ad, e, h1, h2⟩
theorem RowR.mono {w : World} {R Q : Nat → Prop} {A : Option Addr} {vs : List Value} (h : RowR w R A vs) (hQ : ∀ i, R i → i < w.heap.size → Q i) : RowR w Q A vs := fun k v hv => by
  obtain ⟨ad, e, h0, h1, h2⟩ := h k v hv
  exact ⟨ad, e, hQ _ h0 h1, h1, h2⟩
theorem RowR.turn {w w' : World} {R F : Nat → Prop} {A : Option Addr} {vs : List Value} (h : RowR w R A vs) (ht : Turn F w w') (hd : ∀ i, R i → ¬ F i) : RowR w' R A vs := fun k v hv => by
  obtain ⟨ad, e, h0, h1, h2⟩ := h k v hv
  exact ⟨ad, e, h0, Nat.lt_of_lt_of_le h1 ht.size, (World.cell?_of_block (by rw [blk_add]; exact ht.block _ h1 (hd _ h0))).trans h2⟩
theorem RowR.below {w w' : World} {R : Nat → Prop} {A : Option Addr} {vs : List Value} (h : RowR w R A vs) (hb : Below w.heap.size w w') : RowR w' R A vs := h.turn (F := fun _ => False) (Turn.ofBelow hb) fun _ _ q => q
theorem own_frozen {w : World} {base : Nat} {e : TypeId} {g c : Nat} {xs : List Value} (h : Own w base e (some ⟨g, 0, none⟩) c xs) (i : Nat) : w.frozen? ⟨g, i, none⟩ = false := by
  rcases h.2 with ⟨h1, _⟩ | ⟨g', cap, cur, h1, _, h2, _⟩
  · cases h1
  · injection h1 with h7
    injection h7 with h7
    injection h7 with h7
    subst h7
    simp [World.frozen?, h2]
/-- a new row of texts is answered, nothing else has turned -/
def NewTexts (w : World) (n : Nat) (ss : List ByteArray) (e : Ending) (w' : World) : Prop := ∃ A' c', e = .returned (.slice A' n c') ∧ RowR w' (fun b => w.heap.size ≤ b) A' (ss.map .string) ∧ Below w.heap.size w w'
set_option maxRecDepth 100000 in
theorem with_any (w : World) (A : Option Addr) (c : Nat) (ss : List ByteArray) (n i : Nat) (hn : ss.length = n) (s : ByteArray) (hr : Row w w.heap.size A (ss.map .string)) (hl : ss.length ≤ 1000000) (hi : i < ss.length) :
    Calls Try.prog 28 #[.slice A n c, .int .i64 (i : Int), .string s] w (NewTexts w n (ss.set i s)) := by
  subst hn
  have hown := Own.empty (base := w.heap.size) w 9 (Nat.le_refl _)
  obtain ⟨A', c', w1, hrun, ho, hg⟩ := run_append_row (P := Try.prog) (w := w.alloc (.cells #[] 9)) (base := w.heap.size) 28 elem_str hown (A2 := A) (c2 := c) (B := w.heap.size) (news := ss.map .string) (hr.below ((Below.refl _ w).alloc (Nat.le_refl _) _)) (strs_one ss) (by simp [maxLen]; omega) (by simp; omega) (by simp)
  simp only [List.length_nil, Nat.zero_add, List.length_map] at hrun
  obtain ⟨hr1, hb1, ho1⟩ := copy_step ho hg
  obtain ⟨g1, cap, hA', hbg, hlt⟩ := ho1.form (by simp; omega)
  injection hA' with hA'
  subst hA'
  have hc : w1.cell? ⟨g1, i, none⟩ = some (.string ss[i]) := by
    obtain ⟨ad, e, _, q⟩ := hr1.get i (by simpa using hi)
    injection e with e
    subst e
    rw [add_blk, Nat.zero_add] at q
    simpa using q
  have hf := own_frozen ho1 i
  have HE := Lib.hid (show RowR (w1.setCell ⟨g1, i, none⟩ (.string s)) (fun b => w.heap.size ≤ b) (some ⟨g1, 0, none⟩) ((ss.set i s).map .string) ∧ Below w.heap.size w (w1.setCell ⟨g1, i, none⟩ (.string s)) from ⟨fun k v hv => by
    rw [List.map_set] at hv
    obtain ⟨ad, e, q1, q2⟩ := (hr1.set i (.string s)) k v hv
    injection e with e
    subst e
    exact ⟨_, rfl, hbg, by simpa using q1, q2⟩, hb1.setCell (by simpa using hbg) _⟩)
  generalize ss[i] = s0 at hc
  clear ho hg hr1 hb1 ho1 hown hr
  go_enter Try.func28, Try.ntmps28
  go_wp2_with (at_builtin; refine wpList_append_run rfl (.tmp 8) (.tmp 9) 28 28 rfl rfl rfl hrun ?_)
  go_ret
  exact ⟨_, _, rfl, HE.out⟩
theorem tx_extract (l : Pg) (i j : Nat) : (tx l).extract i j = tx ((l.drop i).take (j - i)) := by
  apply ByteArray.ext
  rw [ByteArray.data_extract]
  apply Array.ext'
  simp [tx, List.extract_eq_take_drop]
theorem tx_append (a b : Pg) : tx a ++ tx b = tx (a ++ b) := by
  apply ByteArray.ext
  rw [ByteArray.data_append]
  simp [tx]
theorem tx_splice (l b : Pg) (a : Nat) : (tx l).extract 0 a ++ tx b ++ (tx l).extract (a + b.length) (tx l).size = tx (splice l a b) := by
  rw [tx_extract l 0 a, tx_extract l _ _, tx_append, tx_append, tx_size]
  congr 1
  simp only [splice, List.drop_zero, Nat.sub_zero, List.append_assoc]
  rw [List.take_of_length_le (l := l.drop (a + b.length)) (by simp)]
set_option maxRecDepth 100000 in
theorem over_any (w : World) (l b : Pg) (a : Nat) (ha : a + b.length ≤ l.length) (hl : l.length ≤ 1000000) : Calls Try.prog 30 #[.string (tx l), .int .i64 (a : Int), .string (tx b)] w fun e w' => e = .returned (.string (tx (splice l a b))) ∧ ∃ n, w' = w.drewN n := by
  have h1 := tx_size l
  have h2 := tx_size b
  have hs := tx_splice l b a
  rw [← h2] at hs ha
  rw [← h1] at ha hl
  have HS := Lib.hid hs
  clear h1 h2 hs
  generalize tx (splice l a b) = r at *
  generalize tx l = s at *
  generalize tx b = t at *
  have hsum : IntKind.i64.wrap ((a : Int) + t.size) = (a : Int) + t.size := IntWalk.i64_in _ (by omega)
  have hnn : (0 : Int) ≤ (a : Int) + t.size := by omega
  go_enter Try.func30, Try.ntmps30
  go_wp2_with fail
  go_quiet (fail)
  go_wp2_with fail
  go_ret
  exact ⟨ret_str HS.out, _, rfl⟩
/-- a text cut -/
theorem str_slice (l : Pg) (i j : Nat) (hij : i ≤ j) (hj : j ≤ l.length) (w : World) : (Instr.sliceAt 9 (.string (tx l)) (some (.int .i64 (i : Int))) (some (.int .i64 (j : Int))) none).run Try.prog w = .ok (.string (tx ((l.drop i).take (j - i)))) w := by
  have h1 := tx_size l
  have a1 : (i : Int) ≤ j := by omega
  have a2 : (j : Int) ≤ (tx l).size := by omega
  rw [← tx_extract l i j]
  generalize tx l = t at *
  clear h1 hj hij
  go_simp
/-! one sector more of a torn page -/
theorem torn_take {s b : Pg} {z j : Nat} (hs : s.length = 256) (hb : b.length = 256) (hj : j < 4) : (torn s b z).take (64 * (j + 1)) = (torn s b z).take (64 * j) ++ if bit z j = true then (b.drop (64 * j)).take 64 else (s.drop (64 * j)).take 64 := by
  have hl := torn_len s b z
  apply List.ext_getElem?
  intro i
  have hcs : (if bit z j = true then (b.drop (64 * j)).take 64 else (s.drop (64 * j)).take 64).length = 64 := by split <;> simp <;> omega
  have h0 : ((torn s b z).take (64 * j)).length = 64 * j := by simp [hl]; omega
  have get : ∀ i, i < 256 → (torn s b z)[i]? = some (if bit z (i / 64) = true then b.getD i 0 else s.getD i 0) := fun i hi => by
    have h4 : i < 64 * 4 := by omega
    simp only [torn, tornTo, List.getElem?_map, List.getElem?_range hi, Option.map_some, h4, true_and]
  by_cases h1 : i < 64 * j
  · rw [List.getElem?_append_left (by omega), List.getElem?_take, List.getElem?_take, if_pos h1, if_pos (by omega)]
  · rw [List.getElem?_append_right (by omega), h0]
    by_cases h2 : i < 64 * (j + 1)
    · rw [List.getElem?_take, if_pos h2, get i (by omega)]
      have hq : i / 64 = j := by omega
      rw [hq]
      by_cases hz : bit z j = true
      · rw [if_pos hz, if_pos hz, List.getElem?_take, if_pos (by omega), List.getElem?_drop, show 64 * j + (i - 64 * j) = i by omega, List.getD_eq_getElem?_getD, List.getElem?_eq_getElem (by omega)]
        rfl
      · rw [if_neg hz, if_neg hz, List.getElem?_take, if_pos (by omega), List.getElem?_drop, show 64 * j + (i - 64 * j) = i by omega, List.getD_eq_getElem?_getD, List.getElem?_eq_getElem (by omega)]
        rfl
    · rw [List.getElem?_eq_none (by simp [hl]; omega), List.getElem?_eq_none (by omega)]
def TornRel (s b : Pg) (z : Nat) (o i : Value) : Prop := ∃ k : Nat, k ≤ 4 ∧ i = .int .i64 k ∧ o = .string (tx ((torn s b z).take (64 * k)))
set_option maxRecDepth 100000 in
theorem torn_any (w : World) (s b : Pg) (z : Nat) (hs : s.length = 256) (hb : b.length = 256) (hz : z < 256) : Calls Try.prog 29 #[.string (tx s), .string (tx b), .int .u8 (z : Int)] w fun e w' => e = .returned (.string (tx (torn s b z))) ∧ w = w' := by
  have z1 := tx_size s
  have z2 := tx_size b
  rw [hs] at z1
  rw [hb] at z2
  have HT := Lib.hid (fun j hj => torn_take (z := z) (j := j) hs hb hj)
  have HC1 := Lib.hid (str_slice s)
  have HC2 := Lib.hid (str_slice b)
  have HF := Lib.hid (show tx ((torn s b z).take (64 * 4)) = tx (torn s b z) by rw [List.take_of_length_le (by rw [torn_len]; omega)])
  go_enter Try.func29, Try.ntmps29
  go_wp2_with fail
  go_loop [7, 8] (fun o i => TornRel s b z o i) (fun _ i => 4 - (intOf i).toNat)
  case atStart => exact ⟨0, by omega, rfl, rfl⟩
  case round =>
    obtain ⟨k, hk, rfl, rfl⟩ := hrel
    by_cases hlt : k < 4
    · have hbt := bit_test z k hz
      have ht := HT.out k hlt
      cases hbz : bit z k with
      | false =>
        rw [hbz] at hbt ht
        simp only [Bool.false_eq_true, if_false] at ht
        have hc := HC1.out (64 * k) (64 * k + 64) (by omega) (by omega)
        rw [show 64 * k + 64 - 64 * k = 64 by omega, show ((64 * k : Nat) : Int) = 64 * (k : Int) by omega, show ((64 * k + 64 : Nat) : Int) = 64 * (k : Int) + 64 by omega] at hc
        have HN := Lib.hid (show tx ((torn s b z).take (64 * k)) ++ tx ((s.drop (64 * k)).take 64) = tx ((torn s b z).take (64 * (k + 1))) by rw [tx_append, ht])
        clear ht hbz
        have hq1 : (tx ((s.drop (64 * k)).take 64)).size ≤ 64 := by rw [tx_size]; exact List.length_take_le _ _
        have ho1 : (tx ((torn s b z).take (64 * k))).size ≤ 256 := by rw [tx_size, List.length_take, torn_len]; omega
        generalize tx ((s.drop (64 * k)).take 64) = q at *
        generalize tx ((torn s b z).take (64 * k)) = o at HN ho1 ⊢
        go_wp2_with fail
        go_round
        case rel => exact ⟨k + 1, by omega, by go_num, by rw [HN.out]⟩
        case measure => simp [intOf]; omega
      | true =>
        rw [hbz] at hbt ht
        simp only [if_true] at ht
        have hc := HC2.out (64 * k) (64 * k + 64) (by omega) (by omega)
        rw [show 64 * k + 64 - 64 * k = 64 by omega, show ((64 * k : Nat) : Int) = 64 * (k : Int) by omega, show ((64 * k + 64 : Nat) : Int) = 64 * (k : Int) + 64 by omega] at hc
        have HN := Lib.hid (show tx ((torn s b z).take (64 * k)) ++ tx ((b.drop (64 * k)).take 64) = tx ((torn s b z).take (64 * (k + 1))) by rw [tx_append, ht])
        clear ht hbz
        have hq1 : (tx ((b.drop (64 * k)).take 64)).size ≤ 64 := by rw [tx_size]; exact List.length_take_le _ _
        have ho1 : (tx ((torn s b z).take (64 * k))).size ≤ 256 := by rw [tx_size, List.length_take, torn_len]; omega
        generalize tx ((b.drop (64 * k)).take 64) = q at *
        generalize tx ((torn s b z).take (64 * k)) = o at HN ho1 ⊢
        go_wp2_with fail
        go_round
        case rel => exact ⟨k + 1, by omega, by go_num, by rw [HN.out]⟩
        case measure => simp [intOf]; omega
    · obtain rfl : k = 4 := by omega
      rw [HF.out]
      go_wp2_with fail
      go_ret
      exact ⟨rfl, rfl⟩
end Go.Proofs.Ytecdindjlfefhaa.DiskRef
