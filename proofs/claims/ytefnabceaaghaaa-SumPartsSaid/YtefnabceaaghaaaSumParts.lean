/- The walk of SumParts. -/
import Derived.Test.YtefnabceaaghaaaSumAlone
namespace Go.Proofs.Ytefnabceaaghaaa.SumParts
open Go.RowKit SumPlain Base SumLeft SumMem SumFill SumOf SumAwake SumLaws SumAlone

theorem elem_bytes : Elem Try.prog 32 28 24 := elem_mk (z := .slice none 0 0) Try.underlying32 (by kernel_rfl) rfl
/-- all pieces' bytes, one behind the other -/
def cat (ps : List ByteArray) : List UInt8 := (ps.map bl).flatten
theorem cat_snoc (ps : List ByteArray) (s : ByteArray) : cat (ps ++ [s]) = cat ps ++ bl s := by simp [cat]
theorem ba_app_bl (t s : ByteArray) : bl (t ++ s) = bl t ++ bl s := by simp [bl]
theorem ba_app_size (t s : ByteArray) : (t ++ s).size = t.size + s.size := by simp
theorem mem_flat (ls : List (List UInt8)) (l : List UInt8) (h : l ∈ ls) : l.length ≤ ls.flatten.length := by
  induction ls with
  | nil => simp at h
  | cons x ls ih =>
    simp only [List.flatten_cons, List.length_append]
    rcases List.mem_cons.1 h with rfl | h
    · omega
    · have := ih h; omega
/-- a piece: bytes in a block of their own -/
def Piece (w : World) (g : Nat) (v : Value) (l : List UInt8) : Prop :=
  ∃ b c cs fr, v = .slice (some ⟨b, 0, none⟩) l.length c ∧ b ≠ g ∧ w.heap[b]? = some (.cells cs 5 fr) ∧ ∀ (k : Nat) x, (bv l)[k]? = some x → cs[k]? = some x
theorem heap_lt {w : World} {b : Nat} {o : Obj} (h : w.heap[b]? = some o) : b < w.heap.size := by
  rcases Nat.lt_or_ge b w.heap.size with q | q
  · exact q
  · rw [Array.getElem?_eq_none q] at h; cases h
theorem Piece.below {w w' : World} {g : Nat} {v : Value} {l : List UInt8} (h : Piece w g v l) (hb : Below w.heap.size w w') : Piece w' g v l := by
  obtain ⟨b, c, cs, fr, e, h1, h2, h3⟩ := h
  exact ⟨b, c, cs, fr, e, h1, (hb.block b (heap_lt h2)).trans h2, h3⟩
theorem Piece.row {w : World} {g : Nat} {v : Value} {l : List UInt8} (h : Piece w g v l) : ∃ A c, v = .slice A l.length c ∧ RowX w g A (bv l) := by
  obtain ⟨b, c, cs, fr, e, h1, h2, h3⟩ := h
  refine ⟨_, c, e, fun k x hx => ⟨_, rfl, heap_lt h2, h1, ?_⟩⟩
  rw [add_zero_block]
  simp only [World.cell?, h2]
  exact h3 k x hx
/-- the pieces of the walk behind so many rounds: a row of the call's own, whose elements read as texts -/
def PRel (W : World) (g : Nat) (qs : List ByteArray) (A : Option Addr) (c : Nat) (wr : World) : Prop :=
  ∃ vs, vs.length = qs.length ∧ Own wr (g + 1) 28 A c vs ∧ (∀ (k : Nat) q, qs[k]? = some q → ∃ v, vs[k]? = some v ∧ Piece wr g v (bl q)) ∧ Ready wr g 0 ∧ Below W.heap.size W wr ∧ g + 1 ≤ wr.heap.size
theorem conv_piece (w : World) (g : Nat) (hg : g < w.heap.size) (s : ByteArray) : ∃ C W1, (convert 9 28 (.string s)).run Try.prog w = .ok (.slice (some ⟨w.heap.size, 0, none⟩) s.size C) W1 ∧ Piece W1 g (.slice (some ⟨w.heap.size, 0, none⟩) s.size C) (bl s) ∧ Below w.heap.size w W1 ∧ w.heap.size < W1.heap.size := by
  refine ⟨grownCap w s.size 0 5, _, run_bytes_of_string w 9 28 5 s Try.underlying9 Try.underlying28 Try.underlying5, ⟨_, _, _, _, rfl, by omega, heap_alloc_new w.drew _, fun k x hx => ?_⟩, (Below.refl _ w).drew.alloc (Nat.le_refl _) _, by simp⟩
  have hk : k < s.data.size := by
    rcases Nat.lt_or_ge k s.data.size with q | q
    · exact q
    · rw [List.getElem?_eq_none (by simpa [bv] using q)] at hx; cases hx
  rw [bytesRow_at s _ k hk, ← hx]
  simp [bv, bl, Array.getElem?_eq_getElem hk]
theorem prel_step {W wr w5 w7 : World} {g : Nat} {qs : List ByteArray} {s : ByteArray} {A A' : Option Addr} {c c' : Nat} {v : Value} {vs : List Value} (hl : vs.length = qs.length) (ho : Own wr (g + 1) 28 A c vs)
    (hp : ∀ (k : Nat) q, qs[k]? = some q → ∃ v, vs[k]? = some v ∧ Piece wr g v (bl q)) (hr : Ready wr g 0) (hb : Below W.heap.size W wr) (hg : g + 1 ≤ wr.heap.size) (hW : W.heap.size ≤ g)
    (h5 : Piece w5 g v (bl s)) (hb5 : Below wr.heap.size wr w5) (o : Obj) (ho7 : Own w7 (g + 1) 28 A' c' (vs ++ [v])) (hg7 : (w5.alloc o).grownBy w7 (Value.slice A vs.length c).ownBlock) : PRel W g (qs ++ [s]) A' c' w7 := by
  have ho6 : Own (w5.alloc o) (g + 1) 28 A c vs := (ho.later hb5).alloc o
  have hal : Below w5.heap.size w5 (w5.alloc o) := (Below.refl _ _).alloc (Nat.le_refl _) _
  have h56 : Below wr.heap.size wr (w5.alloc o) := hb5.trans (hal.mono hb5.size)
  have keep : ∀ (u : Value) (l : List UInt8), Piece (w5.alloc o) g u l → Piece w7 g u l := by
    rintro u l ⟨b, cc, cs, fr, e, h1, h2, h3⟩
    refine ⟨b, cc, cs, fr, e, h1, (hg7.block b (heap_lt h2) (fun hbk => ?_)).trans h2, h3⟩
    rcases ho6.2 with ⟨e1, _⟩ | ⟨g', cap, cur, e1, _, hh, _⟩
    · rw [e1] at hbk; simp [Value.ownBlock] at hbk
    · rw [e1] at hbk
      have hbg : b = g' := by simpa [Value.ownBlock] using hbk
      subst hbg
      rw [h2] at hh
      injection hh with hh
      injection hh with _ ht
      exact absurd ht (by decide)
  have hgk : some g ≠ (Value.slice A vs.length c).ownBlock := fun e => by
    have := ho.block g e.symm
    omega
  refine ⟨vs ++ [v], by simp [hl], ho7, fun k q hq => ?_, ?_, ?_, ?_⟩
  · by_cases hk : k < qs.length
    · rw [List.getElem?_append_left hk] at hq
      obtain ⟨u, h1, h2⟩ := hp k q hq
      exact ⟨u, by rw [List.getElem?_append_left (by omega)]; exact h1, keep u _ (h2.below h56)⟩
    · have hk2 : k = qs.length := by
        rcases Nat.lt_trichotomy k qs.length with q' | q' | q'
        · omega
        · exact q'
        · rw [List.getElem?_eq_none (by simp; omega)] at hq; cases hq
      subst hk2
      rw [List.getElem?_append_right (by omega)] at hq
      simp at hq
      subst hq
      refine ⟨v, by rw [List.getElem?_append_right (by omega), hl]; simp, keep v _ (h5.below hal)⟩
  · rcases hr.below h56 with ⟨T, h⟩ | h
    · exact .inl ⟨T, h.grown hg7 hgk⟩
    · exact .inr (h.grown hg7 hgk)
  · refine (Below.step hb h56).grown hg7 (Below.step hb h56).size (fun k hk => ?_)
    have := ho.block k hk
    omega
  · have := hg7.size
    have := h56.size
    omega
theorem pieces_of {wr : World} {g : Nat} {vs : List Value} {qs : List ByteArray} (hl : vs.length = qs.length) (hp : ∀ (k : Nat) q, qs[k]? = some q → ∃ v, vs[k]? = some v ∧ Piece wr g v (bl q)) : Pieces wr g vs (qs.map bl) :=
  ⟨by simp [hl], fun k l hk => by
    rw [List.getElem?_map] at hk
    cases hq : qs[k]? with
    | none => rw [hq] at hk; cases hk
    | some q =>
      rw [hq] at hk
      simp only [Option.map_some, Option.some.injEq] at hk
      subst hk
      obtain ⟨v, h1, h2⟩ := hp k q hq
      obtain ⟨A, c, e, h3⟩ := h2.row
      exact ⟨A, c, by rw [h1, e], h3⟩⟩
theorem own_rowX {w : World} {g : Nat} {A : Option Addr} {c : Nat} {vs : List Value} (h : Own w (g + 1) 28 A c vs) : RowX w g A vs := fun k v hv => by
  obtain ⟨ad, e, hb, hc⟩ := h.row k v hv
  refine ⟨ad, e, hb, ?_, hc⟩
  have := h.block ad.block (by rw [e]; rfl)
  omega

set_option maxRecDepth 100000 in
set_option maxHeartbeats 1600000 in
theorem SumParts_walk (A : Option Addr) (c : Nat) (ps : List ByteArray) (W : World) (hr : Row W W.heap.size A (ps.map .string)) (hn : ps.length ≤ maxLen) :
    Calls Try.prog 4 #[.slice A ps.length c] W (Law W) := by
  unfold maxLen at hn
  have hnot : ∀ (x : Bool) (w : World), (Op.unary .not (.bool x)).run Try.prog w = .ok (.bool (!x)) w := fun _ _ => rfl
  by_cases hl : ps.length ≤ 20
  · have HR := Lib.hid hr
    clear hr
    go_enter Try.func4, Try.ntmps4
    go_wp2_with fail
    refine (new_g _).mono ?_
    rintro e w1 ⟨g, rfl, hg, hx, s1, b1⟩
    go_wp2_with fail
    refine (awakeL b1).mono ?_
    rintro e w3 ⟨rfl, b3, b4⟩
    have hx3 : g < w3.heap.size := Nat.lt_of_lt_of_le hx b3.size
    have R0 : PRel W g [] (some ⟨w3.heap.size, 0, none⟩) 0 (w3.alloc (.cells #[] 28)) :=
      ⟨[], rfl, Own.empty w3 _ hx3, fun k q h => by simp at h, (s1.below b3).below ((Below.refl _ _).alloc (Nat.le_refl _) _), b4.alloc b4.size _, by simp; omega⟩
    clear s1 b1 b3 b4 hx hx3
    go_wp2_with fail
    go_loopw [4, 5, 6] (fun v p i wr => ∃ (k : Nat) (A' : Option Addr) (c' : Nat) (s : ByteArray), k ≤ ps.length ∧ s.size ≤ 200 * k ∧ i = .int .i64 k ∧ v = .string s ∧ bl s = cat (ps.take k) ∧ p = .slice A' k c' ∧ PRel W g (ps.take k) A' c' wr) (fun _ _ i _ => ps.length - (intOf i).toNat)
    case atStart => exact ⟨0, _, 0, ⟨#[]⟩, by omega, by decide, rfl, rfl, rfl, rfl, R0⟩
    case round =>
      clear R0
      obtain ⟨k, A', c', t, hk, hsz, rfl, rfl, hcat, rfl, hrel⟩ := hrel
      have HC := Lib.hid hcat
      clear hcat
      obtain ⟨vs, hvl, hown, hp, hrd, hbl, hgx⟩ := hrel
      have hvk : vs.length = k := by rw [hvl, List.length_take]; omega
      by_cases hlt : k < ps.length
      · obtain ⟨ad, hA, hb, hc⟩ := (HR.out.below hbl).get k (by simpa using hlt)
        subst hA
        simp only [List.getElem_map] at hc
        by_cases hz : ps[k].size ≤ 200
        · have HT := Lib.hid (show ps.take (k + 1) = ps.take k ++ [ps[k]] from List.take_succ_eq_append_getElem hlt)
          generalize ps[k] = s at *
          have HO := Lib.hid hown
          have HP := Lib.hid hp
          have HVL := Lib.hid hvl
          have HVK := Lib.hid hvk
          clear hown hp hvl hvk
          obtain ⟨C, w5, hrun, h5, hb5, hz5⟩ := conv_piece wr g (by omega) s
          have hrow : Row (w5.alloc (.cells #[Value.slice (some ⟨wr.heap.size, 0, none⟩) s.size C] 28)) (w5.heap.size + 1) (some ⟨w5.heap.size, 0, none⟩) [Value.slice (some ⟨wr.heap.size, 0, none⟩) s.size C] := row_of_block (heap_alloc_new w5 _)
          have HRow := Lib.hid hrow
          clear hrow
          go_wp2_with (at_builtin; refine wpList_append_row rfl (.tmp 40) (.tmp 46) 32 rfl elem_bytes (A := A') (c := c') (n := k) (m := 1) (xs := vs) (base := g + 1) rfl HVK.out.symm ((HO.out.later hb5).alloc _) rfl rfl HRow.out (by simp [Value.oneCell']) (by simp [maxLen, HVK.out]; omega) (by simp [HVK.out]; omega) (by simp; omega) ?_; intro A2 c2 w7 hown' hg7; have R1 := prel_step (W := W) HVL.out HO.out HP.out hrd hbl hgx hg h5 hb5 _ hown' hg7; clear hown' hg7)
          go_roundw
          case rel =>
            refine ⟨k + 1, A2, c2, t ++ s, by omega, ?_, by go_num, ?_, ?_, rfl, by rw [HT.out]; exact R1⟩
            · rw [ba_app_size]; omega
            · rfl
            · rw [HT.out, cat_snoc, ← HC.out]; exact ba_app_bl t s
          case measure => simp [intOf]; omega
        · have hz' : (200 : Int) < (ps[k].size : Int) := by omega
          go_wp2_with fail
          go_ret
          exact ⟨rfl, hbl⟩
      · have hke : k = ps.length := by omega
        have HF := Lib.hid (show bl t = ((ps.take k).map bl).flatten from HC.out)
        have hpc := pieces_of hvl hp
        have hrx := own_rowX hown
        have hfl : ((ps.take k).map bl).flatten.length = t.size := by rw [← HF.out]; rfl
        have hone : ∀ l ∈ (ps.take k).map bl, l.length ≤ 1000000 := by
          intro l hl
          have h1 := mem_flat _ l hl
          omega
        have hml : k = ((ps.take k).map bl).length := by rw [List.length_map, List.length_take]; omega
        have HM := Lib.hid hml
        have HFL := Lib.hid hfl
        have HPC := Lib.hid hpc
        have HRX := Lib.hid hrx
        have HON := Lib.hid hone
        clear hml hfl hpc hrx hone hp hvl hvk hown hke HR
        have hk20 : k ≤ 20 := by omega
        go_wp2_with fail
        refine (parts_any g 0 _ A' k c' vs ((ps.take k).map bl) hrd (by omega) (by rw [HFL.out]; omega) (by rw [← HM.out]; omega) HM.out HRX.out HPC.out HON.out).mono ?_
        rintro e w5 ⟨rfl, d5, o5⟩
        rw [← HF.out] at d5 ⊢
        have d5' : Done w5 g t.size := by have := d5; rw [bl_len, Int.zero_add] at this; exact this
        have hb5 : Below W.heap.size W w5 := hbl.trans (o5.below hg (by omega))
        clear d5 o5 hrd HF HFL HPC HRX HON HM
        obtain ⟨C, w6, hrun, hC, hrow, hb6, hz6, hfz⟩ := bytes_run g w5 d5'.lt t
        clear hfz
        go_wp2_with fail
        refine (of_str g t.size _ _ t C (ready_of (d5'.below hb6)) (by omega) (by omega) (by omega) hrow).mono ?_
        rintro e w7 ⟨rfl, d7, o7⟩
        have hb7 : Below W.heap.size W w7 := (Below.step hb5 hb6).trans (o7.below hg (Nat.lt_of_lt_of_le d5'.lt hb6.size))
        clear hrun hrow d5' o7
        go_wp2_with fail
        refine (count_any g 1 0 _ _ _ d7).mono ?_
        rintro e w9 ⟨rfl, rfl⟩
        have hq : (((t.size : Int) + t.size) == 2 * t.size) = true := by simp; omega
        go_wp2_with fail
        refine (parts_any g (t.size + t.size) _ none 0 0 [] [] (ready_of d7) (by omega) (by simp; omega) (by simp) rfl RowX.nil ⟨rfl, fun k l h => by simp at h⟩ (by simp)).mono ?_
        rintro e w8 ⟨rfl, d8, o8⟩
        have hb8 : Below W.heap.size W w8 := hb7.trans (o8.below hg d7.lt)
        rw [show sum (List.flatten []) = 0 from sum_nil]
        go_wp2_with fail
        go_ret
        exact ⟨ret_bool (by simp), hb8⟩
  · have hl' : (20 : Int) < (ps.length : Int) := by omega
    go_enter Try.func4, Try.ntmps4
    go_wp2_with fail
    refine (new_g _).mono ?_
    rintro e w1 ⟨g1, rfl, hg1, hx1, s1, b1⟩
    go_wp2_with fail
    refine (awakeL b1).mono ?_
    rintro e w3 ⟨rfl, b3, b4⟩
    go_wp2_with fail
    refine (awakeL b4).mono ?_
    rintro e w4 ⟨rfl, b5, b6⟩
    go_wp2_with fail
    go_ret
    exact ⟨rfl, b6⟩
end Go.Proofs.Ytefnabceaaghaaa.SumParts
