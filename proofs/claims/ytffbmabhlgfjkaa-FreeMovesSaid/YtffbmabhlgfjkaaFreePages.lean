/- Pages of cells as plain data; the contracts of isFilled, isNoCell, IndexFunc and ContainsFunc of texts. -/
import Derived.Test.YtffbmabhlgfjkaaFreeCellsOf
namespace Go.Proofs.Ytffbmabhlgfjkaa.FreePages
open Go.RowKit Base FreePlain FreeMem FreeText FreeCellsOf

abbrev Cs := List (List ByteArray)
/-- all but the last page are full, none is empty -/
def Shape (cs : Cs) : Prop := ∀ i (h : i < cs.length), (cs[i]).length = 23 ∨ (i + 1 = cs.length ∧ 0 < (cs[i]).length ∧ (cs[i]).length < 23)
def PagesOf (cs : Cs) (l : Fs) : Prop := Shape cs ∧ cs.flatten = texts l
theorem shape_nil : Shape [] := fun i h => by simp at h
theorem shape_tail {c : List ByteArray} {cs : Cs} (h : Shape (c :: cs)) : Shape cs := fun i hi => by
  have := h (i + 1) (by simpa using hi)
  simpa using this
theorem shape_head {c : List ByteArray} {cs : Cs} (h : Shape (c :: cs)) : 0 < c.length ∧ c.length ≤ 23 ∧ (cs ≠ [] → c.length = 23) := by
  have h1 := h 0 (by simp)
  simp at h1
  refine ⟨by omega, by omega, fun hne => ?_⟩
  rcases h1 with h1 | ⟨h1, _⟩
  · exact h1
  · exact absurd h1 (by simpa using hne)
theorem shape_flat {c : List ByteArray} {cs : Cs} (h : Shape (c :: cs)) : (c :: cs).flatten ≠ [] := by
  have := (shape_head h).1
  intro e
  simp at e
  rw [e.1] at this
  simp at this
theorem shape_take {c : List ByteArray} {cs : Cs} (h : Shape (c :: cs)) : (c :: cs).flatten.take 23 = c ∧ (c :: cs).flatten.drop 23 = cs.flatten := by
  obtain ⟨_, h2, h3⟩ := shape_head h
  cases cs with
  | nil => simp; exact ⟨List.take_of_length_le h2, h2⟩
  | cons d cs =>
    have h4 := h3 (by simp)
    rw [List.flatten_cons, ← h4]
    simp
theorem shape_one : ∀ {cs ds : Cs}, Shape cs → Shape ds → cs.flatten = ds.flatten → cs = ds
  | [], [], _, _, _ => rfl
  | [], d :: ds, _, h, e => absurd e.symm (shape_flat h)
  | c :: cs, [], h, _, e => absurd e (shape_flat h)
  | c :: cs, d :: ds, h, h', e => by
    obtain ⟨a1, a2⟩ := shape_take h
    obtain ⟨b1, b2⟩ := shape_take h'
    rw [e] at a1 a2
    have e1 : c = d := a1.symm.trans b1
    have e2 : cs.flatten = ds.flatten := a2.symm.trans b2
    rw [e1, shape_one (shape_tail h) (shape_tail h') e2]
theorem pages_one {cs ds : Cs} {l : Fs} (h : PagesOf cs l) (h' : PagesOf ds l) : cs = ds := shape_one h.1 h'.1 (h.2.trans h'.2.symm)
/-- what a cell tells -/
def par (q : ByteArray) : Int × Int := ((nb (q.data.toList.take 4) : Nat), (nb (q.data.toList.drop 4) : Nat))
theorem cell_size (p : Int × Int) : (cell p).size = 8 := rfl
theorem cell_par (q : ByteArray) (h : q.size = 8) : cell (par q) = q := by
  have hl : q.data.toList.length = 8 := h
  apply Str.ba_ext
  show ((four _) ++ (four _)).data.toList = _
  have e1 := four_nb (q.data.toList.take 4) (by rw [List.length_take]; omega)
  have e2 := four_nb (q.data.toList.drop 4) (by rw [List.length_drop]; omega)
  have : ∀ a b : ByteArray, (a ++ b).data.toList = a.data.toList ++ b.data.toList := fun a b => by simp
  rw [this]
  show (four ((nb (q.data.toList.take 4) : Int).toNat)).data.toList ++ (four ((nb (q.data.toList.drop 4) : Int).toNat)).data.toList = _
  rw [Int.toNat_natCast, Int.toNat_natCast, e1, e2, List.take_append_drop]
theorem par_cell (p : Int × Int) (h : Fit p) : par (cell p) = p := by
  obtain ⟨h1, h2, h3, h4⟩ := h
  obtain ⟨a, ha⟩ := Int.eq_ofNat_of_zero_le (show 0 ≤ p.1 by omega)
  obtain ⟨b, hb⟩ := Int.eq_ofNat_of_zero_le h3
  have e : (cell p).data.toList = (four p.1.toNat).data.toList ++ (four p.2.toNat).data.toList := by simp [cell]
  have l4 : ∀ n, (four n).data.toList.length = 4 := fun n => rfl
  unfold par
  rw [e, ← l4 p.1.toNat, List.take_left, List.drop_left, nb_four _ (by omega), nb_four _ (by omega)]
  ext <;> simp <;> omega
theorem texts_par {qs : List ByteArray} (h : ∀ q ∈ qs, q.size = 8) : texts (qs.map par) = qs := by
  unfold texts
  rw [List.map_map]
  conv => rhs; rw [← List.map_id qs]
  exact List.map_congr_left fun q hq => cell_par q (h q hq)
theorem par_texts {l : Fs} (h : ∀ p ∈ l, Fit p) : (texts l).map par = l := by
  unfold texts
  rw [List.map_map]
  conv => rhs; rw [← List.map_id l]
  exact List.map_congr_left fun p hp => par_cell p (h p hp)
theorem eight {l : Fs} {cs : Cs} (h : PagesOf cs l) : ∀ c ∈ cs, ∀ q ∈ c, q.size = 8 := fun c hc q hq => by
  have : q ∈ cs.flatten := List.mem_flatten.2 ⟨c, hc, hq⟩
  rw [h.2] at this
  obtain ⟨p, _, rfl⟩ := List.mem_map.1 this
  rfl

theorem filled_any (W : World) (n : Nat) (b : Bool) (r : Bool) (hr : r = true ↔ n = 23 ∨ (b = true ∧ 0 < n ∧ n < 23)) :
    Calls Try.prog 35 #[.int .i64 (n : Int), .bool b] W fun e w' => e = .returned (.bool r) ∧ w' = W := by
  have HR := Lib.hid hr
  clear hr
  by_cases h1 : n = 23
  · have HE := Lib.hid (show r = true from HR.out.2 (.inl h1))
    subst h1
    go_enter Try.func35, Try.ntmps35
    go_wp2
    go_ret
    exact ⟨ret_bool (by rw [HE.out]), rfl⟩
  · have e1 : ((n : Int) == 23) = false := by simp; omega
    cases b with
    | false =>
      have HE := Lib.hid (show r = false from Bool.eq_false_iff.2 fun h => by rcases HR.out.1 h with h | ⟨h, _⟩ <;> first | exact h1 h | cases h)
      clear h1
      go_enter Try.func35, Try.ntmps35
      go_wp2
      go_ret
      exact ⟨ret_bool (by rw [HE.out]), rfl⟩
    | true =>
      by_cases h2 : 0 < n
      · by_cases h3 : n < 23
        · have HE := Lib.hid (show r = true from HR.out.2 (.inr ⟨rfl, h2, h3⟩))
          have e2 : (0 < n) = True := by simp; omega
          have e3 : ((n : Int) < 23) = True := by simp; omega
          clear h1 h2
          go_enter Try.func35, Try.ntmps35
          go_wp2
          go_ret
          exact ⟨ret_bool (by rw [HE.out]), rfl⟩
        · have HE := Lib.hid (show r = false from Bool.eq_false_iff.2 fun h => by rcases HR.out.1 h with h | ⟨_, _, h⟩ <;> omega)
          have e2 : (0 < n) = True := by simp; omega
          have e3 : ((n : Int) < 23) = False := by simp; omega
          clear h1 h2
          go_enter Try.func35, Try.ntmps35
          go_wp2
          go_ret
          exact ⟨ret_bool (by rw [HE.out]), rfl⟩
      · have HE := Lib.hid (show r = false from Bool.eq_false_iff.2 fun h => by rcases HR.out.1 h with h | ⟨_, h, _⟩ <;> omega)
        obtain rfl : n = 0 := by omega
        clear h1 h2
        go_enter Try.func35, Try.ntmps35
        go_wp2
        go_ret
        exact ⟨ret_bool (by rw [HE.out]), rfl⟩
theorem nocell_any (W : World) (q : ByteArray) (r : Bool) (hr : r = true ↔ q.size ≠ 8) : Calls Try.prog 37 #[.string q] W fun e w' => e = .returned (.bool r) ∧ w' = W := by
  have HR := Lib.hid (show ((q.size : Int) != 8) = r by rw [Bool.eq_iff_iff, hr]; simp; omega)
  clear hr
  go_enter Try.func37, Try.ntmps37
  go_wp2
  go_ret
  exact ⟨ret_bool (by rw [← HR.out]), rfl⟩
theorem strs_get {w : World} {B : Nat} {A : Option Addr} {cs : List ByteArray} (h : Row w B A (strs cs)) (k : Nat) (hk : k < cs.length) : ∃ ad, A = some ad ∧ ad.block < B ∧ w.cell? (ad.add k) = some (.string cs[k]) := by
  obtain ⟨ad, e, hb, hc⟩ := h.get k (by rw [strs_len]; exact hk)
  exact ⟨ad, e, hb, by simpa [strs] using hc⟩
set_option maxRecDepth 100000 in
set_option maxHeartbeats 1600000 in
theorem indexS_any (W : World) (A : Option Addr) (n c : Nat) (cs : List ByteArray) (hn : n = cs.length) (hr : Row W W.heap.size A (strs cs)) (hl : cs.length ≤ 100000) :
    Calls Try.prog 43 #[.slice A n c, .func (.func 37) #[] #[]] W fun e w' => ∃ r : Int, e = .returned (.int .i64 r) ∧ (0 ≤ r ↔ ∃ q ∈ cs, q.size ≠ 8) ∧ w' = W := by
  subst hn
  have HR := Lib.hid hr
  clear hr
  go_enter Try.func43, Try.ntmps43
  go_wp2_with fail
  go_loopw [5, 8] (fun _ i wr => ∃ k : Nat, k ≤ cs.length ∧ i = .int .i64 k ∧ (∀ j (_ : j < k) (h : j < cs.length), (cs[j]).size = 8) ∧ wr = W) (fun _ i _ => cs.length - (intOf i).toNat)
  case atStart => exact ⟨0, by omega, rfl, by intro j h q; omega, rfl⟩
  case round =>
    obtain ⟨k, hk, rfl, hpre, hw⟩ := hrel
    have hw := hw.symm
    subst hw
    have HP := Lib.hid hpre
    clear hpre
    by_cases hlt : k < cs.length
    · obtain ⟨ad, hA, hblk, hc1⟩ := strs_get HR.out k hlt
      subst hA
      by_cases h8 : (cs[k]).size = 8
      · have HQ := Lib.hid (show ∀ j (_ : j < k + 1) (h : j < cs.length), (cs[j]).size = 8 from fun j hj h => by
          rcases Nat.lt_or_ge j k with q | q
          · exact HP.out j q h
          · obtain rfl : j = k := by omega
            exact h8)
        have hcall := nocell_any W (cs[k]) false (by simp [h8])
        clear h8
        generalize cs[k] = q at *
        go_wp2_with (go_at_call 37; refine hcall.mono ?_; rintro e w' ⟨rfl, rfl⟩)
        clear hcall hc1
        go_roundw
        case rel => exact ⟨k + 1, by omega, by go_num, HQ.out, trivial⟩
        case measure => simp [intOf]; omega
      · have HQ := Lib.hid (show ∃ q ∈ cs, q.size ≠ 8 from ⟨_, List.getElem_mem hlt, h8⟩)
        have hcall := nocell_any W (cs[k]) true (by simp [h8])
        clear h8
        generalize cs[k] = q at *
        go_wp2_with (go_at_call 37; refine hcall.mono ?_; rintro e w' ⟨rfl, rfl⟩)
        go_ret
        exact ⟨_, rfl, ⟨fun _ => HQ.out, fun _ => by omega⟩, rfl⟩
    · have HQ := Lib.hid (show ¬ ∃ q ∈ cs, q.size ≠ 8 from fun ⟨q, hq, h⟩ => by
        obtain ⟨i, hi, rfl⟩ := List.mem_iff_getElem.1 hq
        exact h (HP.out i (by omega) hi))
      go_wp2_with fail
      go_ret
      exact ⟨_, rfl, ⟨fun h => by omega, fun h => absurd h HQ.out⟩, rfl⟩
set_option maxRecDepth 100000 in
set_option maxHeartbeats 1600000 in
theorem containsS_any (W : World) (A : Option Addr) (n c : Nat) (cs : List ByteArray) (r : Bool) (hn : n = cs.length) (hr : Row W W.heap.size A (strs cs)) (hl : cs.length ≤ 100000) (hq : r = true ↔ ∃ q ∈ cs, q.size ≠ 8) :
    Calls Try.prog 36 #[.slice A n c, .func (.func 37) #[] #[]] W fun e w' => e = .returned (.bool r) ∧ w' = W := by
  subst hn
  have hcall := indexS_any W A cs.length c cs rfl hr hl
  have HQ := Lib.hid hq
  clear hq hr
  go_enter Try.func36, Try.ntmps36
  go_wp2_with (go_at_call 43; (with_reducible refine hcall.mono ?_); rintro e w' ⟨z, rfl, hz, hw⟩; subst hw; have HZ := Lib.hid hz; clear hz)
  go_ret
  exact ⟨ret_bool (by rw [Bool.eq_iff_iff, HQ.out, ← HZ.out]; simp), rfl⟩
end Go.Proofs.Ytffbmabhlgfjkaa.FreePages
