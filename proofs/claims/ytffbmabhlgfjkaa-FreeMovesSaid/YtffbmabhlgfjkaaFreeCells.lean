/- The contract of Cells. -/
import Derived.Test.YtffbmabhlgfjkaaFreeOf
namespace Go.Proofs.Ytffbmabhlgfjkaa.FreeCells
open Go.RowKit Base FreePlain FreeMem FreeText FreeCellsOf FreePages FreeCheck FreeSl FreeOf

/-- a row of texts, in a block of texts -/
def RowS (w : World) (A : Option Addr) (cs : List ByteArray) : Prop := ∀ k v, (strs cs)[k]? = some v → ∃ ad cur, A = some ad ∧ w.heap[ad.block]? = some (.cells cur 9 (0, 0)) ∧ w.cell? (ad.add k) = some v
theorem lt_of_some {w : World} {b : Nat} {o : Obj} (h : w.heap[b]? = some o) : b < w.heap.size := by
  rcases Nat.lt_or_ge b w.heap.size with q | q
  · exact q
  · rw [Array.getElem?_eq_none q] at h; cases h
section
variable {w w' : World} {A : Option Addr} {cs : List ByteArray}
theorem RowS.nil (w : World) (A : Option Addr) : RowS w A [] := fun k v h => by simp [strs] at h
theorem RowS.row (h : RowS w A cs) : Row w w.heap.size A (strs cs) := fun k v hv => by
  obtain ⟨ad, cur, e, hb, hc⟩ := h k v hv
  exact ⟨ad, e, lt_of_some hb, hc⟩
theorem RowS.ofOwn {base c : Nat} (h : Own w base 9 A c (strs cs)) : RowS w A cs := fun k v hv => by
  have hr := h.row k v hv
  obtain ⟨ad, e, _, hc⟩ := hr
  subst e
  rcases h.2 with ⟨h1, h2⟩ | ⟨g, cap, cur, h1, _, h2, _⟩
  · injection h1 with h1; cases h1
  · injection h1 with h1
    injection h1 with h1
    subst h1
    exact ⟨_, cur, rfl, h2, hc⟩
theorem RowS.keep (h : RowS w A cs) (hk : ∀ (g : Nat) (cur : Array Value), w.heap[g]? = some (Obj.cells cur 9 (0, 0)) → w'.heap[g]? = w.heap[g]?) : RowS w' A cs := fun k v hv => by
  obtain ⟨ad, cur, e, hb, hc⟩ := h k v hv
  have hbb := hk _ _ hb
  refine ⟨ad, cur, e, hbb.trans hb, ?_⟩
  have e2 : w'.cell? (ad.add k) = w.cell? (ad.add k) := by
    simp only [World.cell?, blk_add, hbb]
  exact e2.trans hc
theorem RowS.below (h : RowS w A cs) (hb : Below w.heap.size w w') : RowS w' A cs := h.keep fun _ _ hg => hb.block _ (lt_of_some hg)
/-- what the outer row's growing leaves -/
theorem RowS.outer (h : RowS w A cs) {base c : Nat} {Ao : Option Addr} {xs : List Value} (hown : Own w base 39 Ao c xs) (hg : w.grownBy w' (Value.slice Ao xs.length c).ownBlock) : RowS w' A cs := h.keep fun g cur hgb => by
  refine hg.block g (lt_of_some hgb) fun e => ?_
  rcases hown.2 with ⟨h1, h2⟩ | ⟨g', cap, cur', h1, _, h2, _⟩
  · rw [h1] at e; cases e
  · rw [h1] at e
    simp only [Value.ownBlock, Option.some.injEq] at e
    subst e
    rw [h2] at hgb
    injection hgb with hgb
    injection hgb with _ q
    exact absurd q (by decide)
end
theorem el_ss : Elem Try.prog 33 39 24 := elem_mk (z := .slice none 0 0) Try.underlying33 (by kernel_rfl) rfl
/-- pages of cells, in rows of the call's own -/
def OutS (lo : Nat) (cs : Cs) (A : Option Addr) (c : Nat) (w : World) : Prop := ∃ ps : List Ps, cs = cellsP ps ∧ Own w lo 39 A c (ps.map psv) ∧ ∀ p ∈ ps, RowS w p.1 p.2.2
theorem OutS.below {lo c : Nat} {cs : Cs} {A : Option Addr} {w w' : World} (h : OutS lo cs A c w) (hb : Below w.heap.size w w') : OutS lo cs A c w' := by
  obtain ⟨ps, e, ho, hr⟩ := h
  exact ⟨ps, e, ho.later hb, fun p hp => (hr p hp).below hb⟩
theorem psv_one (ps : List Ps) : ∀ u ∈ ps.map psv, u.oneCell' = true := fun u hu => by
  obtain ⟨p, _, rfl⟩ := List.mem_map.1 hu
  rfl
/-! as plain data -/
theorem texts_append (a b : Fs) : texts (a ++ b) = texts a ++ texts b := by simp [texts]
def chunks (k : Nat) (l : Fs) : Cs := (List.range k).map fun i => texts ((l.drop (i * 23)).take 23)
theorem chunks_len (k : Nat) (l : Fs) : (chunks k l).length = k := by simp [chunks]
theorem chunks_succ (k : Nat) (l : Fs) : chunks (k + 1) l = chunks k l ++ [texts ((l.drop (k * 23)).take 23)] := by simp [chunks, List.range_succ]
theorem chunks_flat (l : Fs) : ∀ k, (chunks k l).flatten = texts (l.take (k * 23))
  | 0 => by simp [chunks, texts]
  | k + 1 => by
    rw [chunks_succ, List.flatten_append, chunks_flat l k, show (k + 1) * 23 = k * 23 + 23 by omega, List.take_add, texts_append]
    simp
theorem chunks_pages {l : Fs} {k : Nat} (hk : k = (l.length + 22) / 23) : PagesOf (chunks k l) l := by
  refine ⟨fun i hi => ?_, ?_⟩
  · rw [chunks_len] at hi
    have e : ((chunks k l)[i]'(by rw [chunks_len]; exact hi)).length = min 23 (l.length - i * 23) := by
      simp [chunks, texts_len]
    rw [e, chunks_len]
    omega
  · rw [chunks_flat, List.take_of_length_le (by omega)]
theorem pagesFor_any (W : World) (n : Nat) (h : n ≤ 100000) : Calls Try.prog 32 #[.int .i64 (n : Int)] W fun e w' => e = .returned (.int .i64 (((n + 22) / 23 : Nat) : Int)) ∧ w' = W := by
  obtain ⟨m, hm⟩ : ∃ m : Nat, ((n : Int) + 23 - 1) / 23 = (m : Int) ∧ m = (n + 22) / 23 := ⟨_, by omega, rfl⟩
  rw [← hm.2]
  have h1 := hm.1
  have H2 := Lib.hid hm.2
  clear hm
  go_enter Try.func32, Try.ntmps32
  go_wp2
  go_ret
  exact ⟨by simp [h1], rfl⟩
set_option maxRecDepth 100000 in
set_option maxHeartbeats 3200000 in
theorem cells_any (W : World) (A : Option Addr) (n c : Nat) (l : Fs) (hn : n = l.length) (hc : l.length ≤ c) (hr : Row W W.heap.size A (fr l)) (hl : l.length ≤ 1000) :
    Calls Try.prog 20 #[.slice A n c] W fun e w' => Below W.heap.size W w' ∧ ((Gd l ∧ ∃ A' m c' cs, e = .returned (.tuple #[.slice A' m c', .int .i64 0]) ∧ m = cs.length ∧ OutS W.heap.size cs A' c' w' ∧ PagesOf cs l) ∨ (¬ Gd l ∧ e = .returned (.tuple #[.slice none 0 0, .int .i64 60]))) := by
  subst hn
  have HR := Lib.hid hr
  have HC := Lib.hid hc
  clear hc
  by_cases hg : Gd l
  · have hcall := check_any W A l.length c l true rfl hr (by omega) (iff_of_true rfl hg)
    have HG := Lib.hid hg
    have HF := Lib.hid hg.1
    have hpf := fun w => pagesFor_any w l.length (by omega)
    have hN : (l.length + 22) / 23 ≤ 100 := by omega
    have HN := Lib.hid (show ∀ k, k < (l.length + 22) / 23 → k * 23 < l.length by intro k hk; omega)
    have HPG := Lib.hid (show PagesOf (chunks ((l.length + 22) / 23) l) l from chunks_pages rfl)
    generalize (l.length + 22) / 23 = N at *
    clear hg hr
    go_enter Try.func20, Try.ntmps20
    go_wp2_with (first | (go_at_call 13; (with_reducible refine hcall.mono ?_); rintro e w1 ⟨rfl, hb1⟩) | (go_at_call 32; (with_reducible refine (hpf _).mono ?_); rintro e w2 ⟨rfl, hw2⟩; subst w2))
    clear hcall hpf
    go_loopw [4, 13] (fun v i wr => ∃ (k : Nat) (A' : Option Addr) (c' : Nat), k ≤ N ∧ v = .slice A' k c' ∧ i = .int .i64 k ∧ OutS W.heap.size (chunks k l) A' c' wr ∧ Below W.heap.size W wr) (fun _ i _ => N - (intOf i).toNat)
    case atStart => exact ⟨0, none, 0, by omega, rfl, rfl, ⟨[], rfl, Own.nil _ _ _, by simp⟩, hb1⟩
    case round =>
      clear hb1
      obtain ⟨k, A', c', hk, rfl, rfl, hout, hb⟩ := hrel
      by_cases hlt : k < N
      · have hkl := HN.out k hlt
        have hc2 : (c = k * 23) = False := by have := HC.out; simp; omega
        have hrow : Row wr wr.heap.size (Option.map (fun x => x.add (k * 23 * 2)) A) (fr ((l.drop (k * 23)).take 23)) := by
          have h := row_cut (i := k * 23) (k := 23) (HR.out.belowSize hb) HC.out
          rw [if_neg (by have := HC.out; omega)] at h
          exact h
        have hlen : ((l.drop (k * 23)).take 23).length = min 23 (l.length - k * 23) := by rw [List.length_take, List.length_drop]
        have hfit : ∀ p ∈ (l.drop (k * 23)).take 23, Fit p := fun p hp => HF.out p (List.mem_of_mem_drop (List.mem_of_mem_take hp))
        have HSC := Lib.hid (chunks_succ k l)
        have HCL := Lib.hid (chunks_len k l)
        generalize (l.drop (k * 23)).take 23 = lc at *
        have hstep : ∀ (w2 w3 : World) (A2 : Option Addr) (m2 c2 : Nat), Below wr.heap.size wr w2 → m2 = lc.length → Own w2 wr.heap.size 9 A2 c2 (strs (texts lc)) → ∃ A3 c3 w3, (Builtin.append_ #[33, 33] 33 #[.slice A' k c', .slice (some ⟨w2.heap.size, 0, none⟩) 1 1]).run Try.prog (w2.alloc (.cells #[.slice A2 m2 c2] 39)) = .ok (.slice A3 (k + 1) c3) w3 ∧ OutS W.heap.size (chunks (k + 1) l) A3 c3 w3 ∧ Below W.heap.size W w3 := by
          intro w2 _ A2 m2 c2 hb2 hm2 hown2
          obtain ⟨ps, e, ho, hrs⟩ := hout
          have hpl : (ps.map psv).length = k := by rw [List.length_map]; have h1 := HCL.out; rw [e] at h1; simpa [cellsP] using h1
          have ho2 := (ho.later hb2).alloc (.cells #[.slice A2 m2 c2] 39)
          have hbw := bstep hb hb.size hb2
          have hbw2 := bstep hbw hbw.size (al w2 (.cells #[.slice A2 m2 c2] 39))
          obtain ⟨A3, c3, w3, hrun, ho3, hg⟩ := run_append_row (P := Try.prog) 33 el_ss (c2 := 1) ho2 (row_one w2 (.slice A2 m2 c2) 39) (by simp [Value.oneCell']) (by rw [hpl]; simp [maxLen]; omega) (by rw [hpl]; simp; omega) hbw2.size
          have hb3 := ho2.below hbw2 hg (Nat.le_refl _) hbw2.size
          have hnew : RowS w3 A2 (texts lc) := ((RowS.ofOwn hown2).below (al _ _)).outer ho2 hg
          have hold : ∀ p ∈ ps, RowS w3 p.1 p.2.2 := fun p hp => (((hrs p hp).below hb2).below (al _ _)).outer ho2 hg
          rw [hpl] at hrun
          refine ⟨A3, c3, w3, hrun, ⟨ps ++ [(A2, c2, texts lc)], ?_, ?_, ?_⟩, hb3⟩
          · rw [HSC.out, e]; simp [cellsP]
          · have : (ps ++ [(A2, c2, texts lc)]).map psv = ps.map psv ++ [.slice A2 m2 c2] := by rw [List.map_append, hm2, ← texts_len lc]; rfl
            rw [this]; exact ho3
          · intro p hp
            rcases List.mem_append.1 hp with hp | hp
            · exact hold p hp
            · rw [List.mem_singleton.1 hp]; exact hnew
        have HST := Lib.hid hstep
        clear hstep hout
        by_cases hA : k * 23 + 23 ≤ l.length
        · have hl23 : lc.length = 23 := by omega
          have hcall := cellsOf_any wr (Option.map (fun x => x.add (k * 23 * 2)) A) 23 (c - k * 23) lc hl23.symm hrow (by omega) hfit
          have hc1 : k * 23 + 23 ≤ c := by have := HC.out; omega
          have HL23 := Lib.hid hl23
          clear hrow hlen hfit hl23
          go_wp2_with (first | (go_at_call 33; (with_reducible refine hcall.mono ?_); rintro e w2 ⟨A2, m2, c2, rfl, hm2, hown2, hb2⟩; have hx := HST.out w2 w2 A2 m2 c2 hb2 hm2 hown2; obtain ⟨A3, c3, w3, hrun, ho3, hb3⟩ := hx; clear hm2 hown2) | (at_builtin; refine FreeMem.wpList_append_run rfl (.tmp 18) (.tmp 28) 33 33 rfl rfl rfl hrun ?_))
          clear hcall
          go_roundw
          case rel => exact ⟨k + 1, A3, c3, by omega, rfl, by go_num, ho3, hb3⟩
          case measure => simp [intOf]; omega
        · obtain ⟨n9, hn9⟩ : ∃ n9, n9 = l.length - k * 23 := ⟨_, rfl⟩
          have hl23 : lc.length = n9 := by omega
          have e9 : l.length - k * 23 = n9 := hn9.symm
          have hcall := cellsOf_any wr (Option.map (fun x => x.add (k * 23 * 2)) A) n9 (c - k * 23) lc hl23.symm hrow (by omega) hfit
          have hc1 : l.length ≤ c := HC.out
          clear hrow hlen hfit hl23 hn9
          go_wp2_with (first | (go_at_call 33; (with_reducible refine hcall.mono ?_); rintro e w2 ⟨A2, m2, c2, rfl, hm2, hown2, hb2⟩; have hx := HST.out w2 w2 A2 m2 c2 hb2 hm2 hown2; obtain ⟨A3, c3, w3, hrun, ho3, hb3⟩ := hx; clear hm2 hown2) | (at_builtin; refine FreeMem.wpList_append_run rfl (.tmp 18) (.tmp 28) 33 33 rfl rfl rfl hrun ?_))
          clear hcall
          go_roundw
          case rel => exact ⟨k + 1, A3, c3, by omega, rfl, by go_num, ho3, hb3⟩
          case measure => simp [intOf]; omega
      · obtain rfl : k = N := by omega
        have HLN := Lib.hid (chunks_len k l)
        go_wp2_with fail
        go_ret2
        exact ⟨hb, .inl ⟨HG.out, _, _, _, chunks k l, rfl, HLN.out.symm, hout, HPG.out⟩⟩
  · have hcall := check_any W A l.length c l false rfl hr (by omega) (iff_of_false (by decide) hg)
    have HG := Lib.hid hg
    clear hg hr
    go_enter Try.func20, Try.ntmps20
    go_wp2_with (go_at_call 13; (with_reducible refine hcall.mono ?_); rintro e w1 ⟨rfl, hb1⟩)
    go_ret2
    exact ⟨hb1, .inr ⟨HG.out, rfl⟩⟩
end Go.Proofs.Ytffbmabhlgfjkaa.FreeCells
