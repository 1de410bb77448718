/- Contracts of key.Get and key.first. -/
import Derived.Test.YtpiojnphbanggaaKeyPut
namespace Go.Proofs.Ytpiojnphbanggaa.KeyGet
open Go.RowKit KeyPlain Base KeyPut

theorem el_strs : Elem Try.prog 45 9 16 := elem_mk Try.underlying45 (z := .string ⟨#[]⟩) (by kernel_rfl) rfl

theorem beq_of (c d : UInt8) (h : c = d) : ((c.toNat : Int) == (d.toNat : Int)) = true := by rw [toNat_beq]; simpa using h
theorem beq_no (c d : UInt8) (h : ¬ c = d) : ((c.toNat : Int) == (d.toNat : Int)) = false := by rw [toNat_beq]; simpa using h
theorem bne_of (c d : UInt8) (h : ¬ c = d) : ((c.toNat : Int) != (d.toNat : Int)) = true := by rw [toNat_bne]; simpa using h
theorem bne_no (c d : UInt8) (h : c = d) : ((c.toNat : Int) != (d.toNat : Int)) = false := by rw [toNat_bne]; simpa using h

/-- what first tells -/
def First (s : ByteArray) (w : World) (e : Ending) (w' : World) : Prop :=
  Below w.heap.size w w' ∧ match kfirst s.data.toList with
    | some q => e = .returned (.tuple #[.string ⟨q.1.toArray⟩, .int .i64 ((s.size - q.2.length : Nat) : Int)])
    | none => e = .returned (.tuple #[.string ⟨#[]⟩, .int .i64 0])
theorem first_none {s : ByteArray} {w w' : World} (hb : Below w.heap.size w w') (h : kfirst s.data.toList = none) : First s w (.returned (.tuple #[.string ⟨#[]⟩, .int .i64 0])) w' := by
  refine ⟨hb, ?_⟩
  rw [h]
theorem first_some {s : ByteArray} {w w' : World} {p r : List UInt8} {n : Int} (hb : Below w.heap.size w w') (h : kfirst s.data.toList = some (p, r)) (hn : n = ((s.size - r.length : Nat) : Int)) : First s w (.returned (.tuple #[.string ⟨p.toArray⟩, .int .i64 n])) w' := by
  refine ⟨hb, ?_⟩
  rw [h, hn]

/-- the places of a text: so far it was the part pl -/
theorem at_end {s : ByteArray} {k : Nat} {pl : List UInt8} (h : s.data.toList.take k = esc pl) (hk : ¬ k < s.size) : kfirst s.data.toList = none := by
  rw [List.take_of_length_le (by rw [ba_len]; omega)] at h
  have := kfirst_esc pl []
  rw [List.append_nil] at this
  rw [h, this]; rfl
theorem whole_at {s : ByteArray} {k : Nat} {pl : List UInt8} (h : s.data.toList.take k = esc pl) : s.data.toList = esc pl ++ s.data.toList.drop k := by rw [← h, List.take_append_drop]
theorem at_zero {s : ByteArray} {k : Nat} {pl : List UInt8} (h : s.data.toList.take k = esc pl) (h1 : k < s.size) (hz : s[k] = 0) (h2 : ¬ k + 1 < s.size) : kfirst s.data.toList = none := by
  rw [whole_at h, kfirst_esc, ba_drop_cons s k h1, List.drop_of_length_le (by rw [ba_len]; omega), hz]; rfl
theorem at_two {s : ByteArray} {k : Nat} {pl : List UInt8} (h : s.data.toList.take k = esc pl) (h1 : k < s.size) (hz : s[k] = 0) (h2 : k + 1 < s.size) :
    kfirst s.data.toList = (if s[k + 1] = 0 then some (pl, s.data.toList.drop (k + 2)) else if s[k + 1] = 255 then (kfirst (s.data.toList.drop (k + 2))).map (fun q => (pl ++ 0 :: q.1, q.2)) else none) := by
  have e := kfirst_esc pl (s.data.toList.drop k)
  rw [← whole_at h, ba_drop_cons s k h1, ba_drop_cons s (k + 1) h2, hz] at e
  rw [e]
  simp only [kfirst, if_true]
  by_cases g : s[k + 1] = 0
  · simp [g]
  · by_cases g2 : s[k + 1] = 255
    · simp [g2, Function.comp_def]
    · simp [g, g2]
theorem step_other {s : ByteArray} {k : Nat} {pl : List UInt8} (h : s.data.toList.take k = esc pl) (h1 : k < s.size) (hz : ¬ s[k] = 0) : s.data.toList.take (k + 1) = esc (pl ++ [s[k]]) := by
  rw [ba_take_snoc s k h1, h, esc_append]; simp [esc, hz]
theorem step_zero {s : ByteArray} {k : Nat} {pl : List UInt8} (h : s.data.toList.take k = esc pl) (h1 : k < s.size) (hz : s[k] = 0) (h2 : k + 1 < s.size) (hq : s[k + 1] = 255) : s.data.toList.take (k + 2) = esc (pl ++ [0]) := by
  rw [ba_take_snoc s (k + 1) h2, ba_take_snoc s k h1, h, esc_append, hz, hq]; simp [esc]
theorem pl_le {s : ByteArray} {k : Nat} {pl : List UInt8} (h : s.data.toList.take k = esc pl) : pl.length ≤ k := by
  have h1 : ∀ l : List UInt8, l.length ≤ (esc l).length := by
    intro l
    induction l with
    | nil => simp
    | cons c l ih => by_cases h : c = 0 <;> simp [esc, h] <;> omega
  have h2 := h1 pl
  rw [← h] at h2
  have h3 := List.length_take_le k s.data.toList
  omega
theorem own_snoc {w w1 : World} {B : Nat} {A A' : Option Addr} {c c' : Nat} {pl : List UInt8} {x : UInt8} {o : Obj} {w0 : World} (hown : Own w B 5 A c (bv pl)) (hb : Below w0.heap.size w0 w) (hB : w0.heap.size ≤ B) (hBw : B ≤ w.heap.size)
    (hown' : Own w1 B 5 A' c' (bv pl ++ [.int .u8 (x.toNat : Int)])) (hg : (w.alloc o).grownBy w1 (Value.slice A (bv pl).length c).ownBlock) :
    Own w1 B 5 A' c' (bv (pl ++ [x])) ∧ Below w0.heap.size w0 w1 :=
  ⟨by rw [bv_append]; exact hown', (hown.alloc o).below (hb.alloc (by omega) o) hg hB (by simp; omega)⟩

set_option maxHeartbeats 1000000 in
theorem first_any (s : ByteArray) (w : World) (hs : s.size ≤ 1000000) :
    Calls Try.prog 56 #[.string s] w (First s w) := by
  have hrow : ∀ (W : World) (x : UInt8), Row (W.alloc (.cells #[.int .u8 (x.toNat : Int)] 5)) (W.heap.size + 1) (some ⟨W.heap.size, 0, none⟩) [.int .u8 (x.toNat : Int)] := fun W x => row_of_block (heap_alloc_new W (.cells #[.int .u8 (x.toNat : Int)] 5))
  have HR := Lib.hid hrow
  clear hrow
  go_enter Try.func56, Try.ntmps56
  go_wp2_with fail
  go_loopw [4, 5] (fun v i wr => ∃ (k : Nat) (pl : List UInt8) (A : Option Addr) (c : Nat), k ≤ s.size ∧ i = .int .i64 k ∧ v = .slice A pl.length c ∧ s.data.toList.take k = esc pl ∧ Own wr w.heap.size 5 A c (bv pl) ∧ Below w.heap.size w wr) (fun _ i _ => s.size - (intOf i).toNat)
  case atStart => exact ⟨0, [], none, 0, by omega, rfl, rfl, rfl, Own.nil _ _ _, Below.refl _ _⟩
  case round =>
    obtain ⟨k, pl, A, c, hk, rfl, rfl, hpre, hown, hb⟩ := hrel
    have hpl := pl_le hpre
    have hbs := hb.size
    have HP := Lib.hid hpre
    clear hpre
    by_cases h1 : k < s.size
    · by_cases hz : s[k] = 0
      · have hzb : ((s[k].toNat : Int) != 0) = false := bne_no s[k] 0 hz
        by_cases h2 : k + 1 < s.size
        · have hne : ((k : Int) + 1 == (s.size : Int)) = false := by simp; omega
          have HT := Lib.hid (at_two HP.out h1 hz h2)
          by_cases ha : s[k + 1] = 0
          · have hab : ((s[k + 1].toNat : Int) == 0) = true := beq_of s[k + 1] 0 ha
            have HQ := Lib.hid (show kfirst s.data.toList = some (pl, s.data.toList.drop (k + 2)) by rw [HT.out, if_pos ha])
            clear ha hz
            have hconv := conv_bytes (P := Try.prog) Try.underlying66 Try.underlying5 Try.underlying9 c hown.row
            go_wp2_with fail
            go_ret2
            exact first_some hb HQ.out (by rw [List.length_drop, ba_len]; omega)
          · have hab : ((s[k + 1].toNat : Int) == 0) = false := beq_no s[k + 1] 0 ha
            by_cases hq : s[k + 1] = 255
            · have hqb : ((s[k + 1].toNat : Int) == 255) = true := beq_of s[k + 1] 255 hq
              have HS := Lib.hid (step_zero HP.out h1 hz h2 hq)
              clear hz ha hq HT
              go_wp2_with (at_builtin; refine wpList_append_row rfl (.tmp 39) (.tmp 40) 66 rfl el_bytes (A := A) (c := c) (n := pl.length) (m := 1) (xs := bv pl) rfl (bv_len pl).symm (hown.alloc _) rfl rfl (HR.out wr 0) (by simp [Value.oneCell']) (by simp [bv_len, maxLen]; omega) (by simp [bv_len]; omega) (by simp; omega) ?_; intro A' c' w1 hown' hg; obtain ⟨ho1, hb1⟩ := own_snoc hown hb (Nat.le_refl _) hbs hown' hg; clear hown' hg)
              go_roundw
              case rel => exact ⟨k + 2, pl ++ [0], A', c', by omega, by go_num, by simp, HS.out, ho1, hb1⟩
              case measure => simp [intOf]; omega
            · have hqb : ((s[k + 1].toNat : Int) == 255) = false := beq_no s[k + 1] 255 hq
              have HQ := Lib.hid (show kfirst s.data.toList = none by rw [HT.out, if_neg ha, if_neg hq])
              clear hz ha hq HT
              go_wp2_with fail
              go_ret2
              exact first_none hb HQ.out
        · have hne : ((k : Int) + 1 == (s.size : Int)) = true := by simp; omega
          have HQ := Lib.hid (at_zero HP.out h1 hz h2)
          clear hz
          go_wp2_with fail
          go_ret2
          exact first_none hb HQ.out
      · have hzb : ((s[k].toNat : Int) != 0) = true := bne_of s[k] 0 hz
        have HS := Lib.hid (step_other HP.out h1 hz)
        clear hz
        go_wp2_with (at_builtin; refine wpList_append_row rfl (.tmp 16) (.tmp 20) 66 rfl el_bytes (A := A) (c := c) (n := pl.length) (m := 1) (xs := bv pl) rfl (bv_len pl).symm (hown.alloc _) rfl rfl (HR.out wr s[k]) (by simp [Value.oneCell']) (by simp [bv_len, maxLen]; omega) (by simp [bv_len]; omega) (by simp; omega) ?_; intro A' c' w1 hown' hg; obtain ⟨ho1, hb1⟩ := own_snoc hown hb (Nat.le_refl _) hbs hown' hg; clear hown' hg)
        go_roundw
        case rel => exact ⟨k + 1, pl ++ [s[k]], A', c', by omega, by go_num, by simp, HS.out, ho1, hb1⟩
        case measure => simp [intOf]; omega
    · go_wp2_with fail
      go_ret2
      exact first_none hb (at_end HP.out h1)

/-- what Get tells -/
def Got (s : ByteArray) (w : World) (e : Ending) (w' : World) : Prop :=
  Below w.heap.size w w' ∧ ((∃ (ps : List ByteArray) (A : Option Addr) (c : Nat), s.data.toList = kput (lst ps) ∧ e = .returned (.tuple #[.slice A ps.length c, .int .i64 0]) ∧ Own w' w.heap.size 9 A c (ps.map .string))
    ∨ ((∀ qs, s.data.toList ≠ kput qs) ∧ e = .returned (.tuple #[.slice none 0 0, .int .i64 10])))
theorem got_yes {s : ByteArray} {w w' : World} {ps : List ByteArray} {A : Option Addr} {c : Nat} (hb : Below w.heap.size w w') (h : s.data.toList = kput (lst ps)) (ho : Own w' w.heap.size 9 A c (ps.map .string)) :
    Got s w (.returned (.tuple #[.slice A ps.length c, .int .i64 0])) w' := ⟨hb, .inl ⟨ps, A, c, h, rfl, ho⟩⟩
theorem got_no {s x : ByteArray} {w w' : World} {ps : List (List UInt8)} (hb : Below w.heap.size w w') (h : s.data.toList = kput ps ++ x.data.toList) (hx : 0 < x.size) (hf : kfirst x.data.toList = none) :
    Got s w (.returned (.tuple #[.slice none 0 0, .int .i64 10])) w' := ⟨hb, .inr ⟨fun qs => by
      rw [h]
      exact kput_no (by intro e; have := congrArg List.length e; rw [ba_len, List.length_nil] at this; omega) hf qs, rfl⟩⟩
theorem kfirst_back {x p r : List UInt8} (h : kfirst x = some (p, r)) : x = kpart p ++ r := by
  induction x using kfirst.induct generalizing p r with
  | case1 => simp [kfirst] at h
  | case2 c => simp [kfirst] at h
  | case3 r' => simp [kfirst] at h; obtain ⟨rfl, rfl⟩ := h; simp [kpart, esc]
  | case4 r' _ ih =>
    simp only [kfirst, if_true] at h
    rw [if_neg (by decide)] at h
    obtain ⟨q, hq, e⟩ := Option.map_eq_some_iff.1 h
    injection e with e1 e2
    subst e1 e2
    have := ih hq
    simp only [kpart, esc, if_true, List.cons_append] at this ⊢
    rw [this]
  | case5 c r' h1 h2 => simp [kfirst, h1, h2] at h
  | case6 c d r' h1 ih =>
    simp only [kfirst, if_neg h1] at h
    obtain ⟨q, hq, e⟩ := Option.map_eq_some_iff.1 h
    injection e with e1 e2
    subst e1 e2
    have := ih hq
    simp only [kpart, esc, if_neg h1, List.cons_append] at this ⊢
    rw [this]
theorem get_step {s x : ByteArray} {ps : List ByteArray} {p r : List UInt8} (h : s.data.toList = kput (lst ps) ++ x.data.toList) (hf : kfirst x.data.toList = some (p, r)) :
    s.data.toList = kput (lst (ps ++ [⟨p.toArray⟩])) ++ (x.extract (x.size - r.length) x.size).data.toList ∧ r.length + 2 ≤ x.size := by
  have hx := kfirst_back hf
  have hl : x.size = (kpart p).length + r.length := by rw [← ba_len, hx, List.length_append]
  have hp : 2 ≤ (kpart p).length := by simp [kpart]
  refine ⟨?_, by omega⟩
  rw [Lib.extract_data, hx, lst, List.map_append, kput_append, h, hx]
  have e : x.size - r.length = (kpart p).length := by omega
  rw [e, List.drop_left, List.take_of_length_le (by omega)]
  simp [kput, lst]

set_option maxHeartbeats 1000000 in
theorem Get_any (s : ByteArray) (w : World) (hs : s.size ≤ 1000000) :
    Calls Try.prog 48 #[.string s] w (Got s w) := by
  have hrow : ∀ (W : World) (x : ByteArray), Row (W.alloc (.cells #[.string x] 9)) (W.heap.size + 1) (some ⟨W.heap.size, 0, none⟩) [.string x] := fun W x => row_of_block (heap_alloc_new W (.cells #[.string x] 9))
  have HR := Lib.hid hrow
  clear hrow
  go_enter Try.func48, Try.ntmps48
  go_wp2_with fail
  go_loopw [0, 4] (fun z v wr => ∃ (x : ByteArray) (ps : List ByteArray) (A : Option Addr) (c : Nat), z = .string x ∧ v = .slice A ps.length c ∧ x.size + ps.length ≤ 1000000 ∧ s.data.toList = kput (lst ps) ++ x.data.toList ∧ Own wr w.heap.size 9 A c (ps.map .string) ∧ Below w.heap.size w wr) (fun z _ _ => match z with | .string x => x.size | _ => 0)
  case atStart => exact ⟨s, [], none, 0, rfl, rfl, by simpa using hs, by simp [lst, kput], Own.nil _ _ _, Below.refl _ _⟩
  case round =>
    obtain ⟨x, ps, A, c, rfl, rfl, hx, hpre, hown, hb⟩ := hrel
    have hbs := hb.size
    have HP := Lib.hid hpre
    clear hpre
    by_cases h1 : 0 < x.size
    · cases hf : kfirst x.data.toList with
      | none =>
        have HF := Lib.hid hf
        clear hf
        go_wp2_with (go_at_call 56; refine (first_any x _ (by omega)).mono ?_; rintro e w1 ⟨hb1, he⟩; rw [HF.out] at he; simp only at he; subst he)
        go_ret2
        exact got_no (hb.trans (hb1.mono hbs)) HP.out h1 HF.out
      | some q =>
        obtain ⟨p, r⟩ := q
        have HF := Lib.hid hf
        obtain ⟨hst, hr2⟩ := get_step HP.out hf
        have HS := Lib.hid hst
        clear hf hst
        have hne : (((x.size - r.length : Nat) : Int) == 0) = false := by simp; omega
        go_wp2_with fail
        refine (first_any x _ (by omega)).mono ?_
        rintro e w1 ⟨hb1, he⟩
        rw [HF.out] at he
        simp only at he
        subst he
        have hown1 := hown.later hb1
        have hbw1 := hb.trans (hb1.mono hbs)
        have hbs1 := hbw1.size
        go_wp2_with (at_builtin; refine wpList_append_row rfl (.tmp 17) (.tmp 19) 45 rfl el_strs (A := A) (c := c) (n := ps.length) (m := 1) (xs := ps.map .string) rfl (by simp) (hown1.alloc _) rfl rfl (HR.out w1 ⟨p.toArray⟩) (by simp [Value.oneCell']) (by simp [maxLen]; omega) (by simp; omega) (by simp; omega) ?_; intro A' c' w2 hown' hg; have hb2 : Below w.heap.size w w2 := (hown1.alloc _).below (hbw1.alloc (by omega) _) hg (Nat.le_refl _) (by simp; omega); clear hg)
        go_roundw
        case rel => exact ⟨_, ps ++ [⟨p.toArray⟩], A', c', rfl, by simp, by simp; omega, HS.out, by simpa using hown', hb2⟩
        case measure => simp; omega
    · go_wp2_with fail
      go_ret2
      exact got_yes hb (by rw [HP.out]; have : x.data.toList = [] := List.eq_nil_of_length_eq_zero (by rw [ba_len]; omega); rw [this, List.append_nil]) hown
end Go.Proofs.Ytpiojnphbanggaa.KeyGet
