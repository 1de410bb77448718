/- Tuples of keys: the code's OfKey. -/
import Derived.Test.YtpiojnphbanggaaTupleKeyC
import Derived.Test.YtpiojnphbanggaaReg
namespace Go.Proofs.Ytpiojnphbanggaa.TupleOfKeyC
open Go.RowKit Base KeyPlain KeyGet TuplePlain TupleRef TupleSpec TupleName TupleCut TupleKeyC

theorem results_cell_tmp2_row {P : Program} {fn : Func} {p u v : Tmp} {ty : TypeId} (h : fn.results = #[.cell p ty, .tmp u, .tmp v]) (tmps : Array Value) (w : World) (g : Nat) (t : TypeId) (cs : Array Value) (fr : Nat × Nat) (d : TypeDesc)
    (hp : tmps.getD p undef = .pointer (some ⟨g, 0, none⟩)) (hg : w.heap[g]? = some (.cells cs t fr))
    (hu : P.underlying ty = some d) (hd : (match d with | .struct _ | .array _ _ => true | _ => false) = true) (hi : (P.info? ty).map (·.size) = some cs.size) :
    (results fn tmps).run P w = .ok (.tuple #[.agg cs, tmps.getD u undef, tmps.getD v undef]) w := by
  have hp' : tmps[p]?.getD undef = .pointer (some ⟨g, 0, none⟩) := by simpa using hp
  simp only [results, h]
  simp [Result.andThen, asAddr, hp', run_loadVar_row w g t ty cs fr d hg hu hd hi]
def RkPost (s : ByteArray) (w : World) (e : Ending) (w' : World) : Prop := ∃ o : Option (Tp × Bool), RdK (bl s) o ∧ e = .returned (.tuple #[.agg (tc ((o.map (·.1)).getD ztp)), .bool ((o.map (·.2)).getD false), okE o.isSome 110]) ∧ Below w.heap.size w w'
theorem rk_no {s : ByteArray} {w w' : World} (h : RdK (bl s) none) (hb : Below w.heap.size w w') : RkPost s w (.returned (.tuple #[.agg #[.string ⟨#[]⟩, .string ⟨#[]⟩, .string ⟨#[]⟩, .string ⟨#[]⟩, .string ⟨#[]⟩, .string ⟨#[]⟩], .bool false, .int .i64 110])) w' := ⟨none, h, rfl, hb⟩
theorem rk_yes {s : ByteArray} {w w' : World} {t : Tp} {b : Bool} (h : t.ok = true) (hs : (if b then t.back else t.key) = bl s) (hb : Below w.heap.size w w') : RkPost s w (.returned (.tuple #[.agg #[.string t.k, .string t.i, .string t.r, .string t.u.k, .string t.u.i, .string t.u.r], .bool b, .int .i64 0])) w' := ⟨some (t, b), ⟨h, hs⟩, rfl, hb⟩
theorem rdk_none {s : List UInt8} {ps : List ByteArray} (h : s = kput (lst ps)) (hn : ∀ t : Tp, t.ok = true → ps ≠ sf :: t.parts ∧ ps ≠ sr :: t.backs) : RdK s none := fun t ht => by
  subst h
  exact ⟨fun e => (hn t ht).2 (TuplePlain.lst_inj (kput_inj e)).symm, fun e => (hn t ht).1 (TuplePlain.lst_inj (kput_inj e)).symm⟩
theorem rdk_nokey {s : List UInt8} (h : ∀ qs, s ≠ kput qs) : RdK s none := fun _ _ => ⟨fun e => h _ e.symm, fun e => h _ e.symm⟩
theorem rdk_short {s : List UInt8} {ps : List ByteArray} (h : s = kput (lst ps)) (hl : ps.length ≠ 7) : RdK s none := rdk_none h fun _ _ => ⟨fun e => hl (by rw [e]; rfl), fun e => hl (by rw [e]; rfl)⟩
theorem part_len : ∀ {ps : List ByteArray} {p : ByteArray}, p ∈ ps → p.size ≤ (kput (lst ps)).length
  | q :: ps, p, h => by
    show _ ≤ (kpart (bl q) ++ kput (lst ps)).length
    rw [List.length_append]
    rcases List.mem_cons.1 h with rfl | h
    · have : ∀ l : List UInt8, l.length ≤ (kpart l).length := fun l => by
        induction l with
        | nil => exact Nat.zero_le _
        | cons c l ih =>
          have e : (esc l).length ≤ (esc (c :: l)).length - 1 ∧ 1 ≤ (esc (c :: l)).length := by
            simp only [esc]; split <;> simp
          simp only [kpart, List.length_append, List.length_cons, List.length_nil] at ih ⊢
          omega
      have := this (bl p)
      rw [bl_size] at this
      omega
    · have := part_len h
      omega
theorem row_cell {w : World} {B g o k : Nat} {vs : List Value} {v : Value} (h : Row w B (some ⟨g, 0, none⟩) vs) (ho : o = k) (hk : vs[k]? = some v) : w.cell? ⟨g, o, none⟩ = some v := by
  subst ho
  have := row_at h o hk
  rwa [Nat.zero_add] at this
theorem row_sub {w : World} {B g o : Nat} {vs : List Value} (h : Row w B (some ⟨g, 0, none⟩) vs) (n : Nat) : Row w B (some ⟨g, o, none⟩) ((vs.drop o).take n) := fun k v hk => by
  rw [List.getElem?_take] at hk
  split at hk
  · rw [List.getElem?_drop] at hk
    obtain ⟨ad, e, hB, hc⟩ := h (o + k) v hk
    injection e with e
    subst e
    refine ⟨_, rfl, hB, ?_⟩
    have e2 : ∀ o k : Nat, (⟨g, o, none⟩ : Addr).add k = ⟨g, o + k, none⟩ := fun o k => by unfold Addr.add; split <;> simp_all
    rw [e2] at hc ⊢
    rwa [Nat.zero_add] at hc
  · cases hk
theorem under_s : Try.prog.underlying 45 = some (.slice (Try.prog.elem 45)) := by kernel_rfl
theorem size_s (w : World) : (sizeOf (Try.prog.elem 45)).run Try.prog w = .ok 1 w := by kernel_rfl
theorem cut_14 (g c : Nat) (hc : 7 ≤ c) (w : World) : (Instr.slice 45 (.slice (some ⟨g, 0, none⟩) 7 c) (some (.int .i64 1)) (some (.int .i64 4)) none).run Try.prog w = .ok (.slice (some ⟨g, 1, none⟩) 3 (c - 1)) w := by
  rw [run_slice_lh w 45 (some ⟨g, 0, none⟩) 7 c under_s .i64 .i64 1 4 (by omega) (by omega) (by omega), size_s]
  have : ¬ c = 1 := by omega
  simp [sliced, Result.andThen, Addr.add, this]
theorem cut_47 (g c : Nat) (hc : 7 ≤ c) (w : World) : (Instr.slice 45 (.slice (some ⟨g, 0, none⟩) 7 c) (some (.int .i64 4)) none none).run Try.prog w = .ok (.slice (some ⟨g, 4, none⟩) 3 (c - 4)) w := by
  rw [run_slice_l w 45 (some ⟨g, 0, none⟩) 7 c under_s .i64 4 (by omega) (by omega), size_s]
  have : ¬ c = 4 := by omega
  simp [sliced, Result.andThen, Addr.add, this]
theorem own_seven {w : World} {base : Nat} {t : TypeId} {A : Option Addr} {c : Nat} {ps : List ByteArray} (h : Own w base t A c (ps.map .string)) (hl : ps.length = 7) : (∃ g, A = some ⟨g, 0, none⟩ ∧ base ≤ g ∧ g < w.heap.size) ∧ 7 ≤ c := by
  have hc := h.cap.1
  rw [List.length_map] at hc
  refine ⟨?_, by omega⟩
  rcases h.2 with ⟨e, h1⟩ | ⟨g', cap, cur, e, _⟩
  · have hq := h.row.get 0 (by rw [List.length_map]; omega)
    obtain ⟨ad, hA, _⟩ := hq
    injection e with e1
    rw [hA] at e1
    cases e1
  · injection e with e1
    subst e1
    exact ⟨g', rfl, h.block g' (by simp [Value.ownBlock])⟩
theorem tl_f (p : ByteArray) : (p.toList == [102]) = decide (p = sf) := by have h := Str.ba_beq p sf; simpa using h
theorem tl_r (p : ByteArray) : (p.toList == [114]) = decide (p = sr) := by have h := Str.ba_beq p sr; simpa using h
theorem keep6 {w : World} {T g : Nat} {a b c d e f v : Value} (h : g ≠ T) (hc : w.cell? ⟨g, 0, none⟩ = some v) :
    ((((((w.setCell ⟨T, 0, none⟩ a).setCell ⟨T, 1, none⟩ b).setCell ⟨T, 2, none⟩ c).setCell ⟨T, 3, none⟩ d).setCell ⟨T, 4, none⟩ e).setCell ⟨T, 5, none⟩ f).cell? ⟨g, 0, none⟩ = some v := by
  have k : ∀ (w : World) (i : Nat) (u : Value), (w.setCell ⟨T, i, none⟩ u).cell? ⟨g, 0, none⟩ = w.cell? ⟨g, 0, none⟩ := fun w i u => by
    have := Below.heap_setCell w ⟨T, i, none⟩ u g h
    simp only [World.cell?, this]
  rw [k, k, k, k, k, k, hc]
set_option maxRecDepth 100000 in
set_option maxHeartbeats 25600000 in
theorem ofKey_any (s : ByteArray) (w : World) (hs : s.size ≤ 1000000) :
    Calls Try.prog 28 #[.string s] w (RkPost s w) := by
  have H1 := Lib.hid (fun w => KeyGet.Get_any s w hs)
  have H2 := Lib.hid (fun t ht w => check_any t w ht)
  unfold okE tc at H2
  have HO := Lib.hid (fun o u w => of_any o u w)
  unfold tc uc at HO
  have HU := Lib.hid (fun g o c p q r w h => user_any g o c p q r w h)
  unfold uc at HU
  obtain ⟨w1, hw1⟩ : ∃ v, v = w.alloc (.cells #[.string ⟨#[]⟩, .string ⟨#[]⟩, .string ⟨#[]⟩, .string ⟨#[]⟩, .string ⟨#[]⟩, .string ⟨#[]⟩] 25) := ⟨_, rfl⟩
  obtain ⟨b, hbe⟩ : ∃ v, v = w.heap.size := ⟨_, rfl⟩
  have HB1 := Lib.hid (show Below w.heap.size w w1 from by rw [hw1]; exact al _ _)
  have a1 : w1.heap[b]? = some (.cells #[.string ⟨#[]⟩, .string ⟨#[]⟩, .string ⟨#[]⟩, .string ⟨#[]⟩, .string ⟨#[]⟩, .string ⟨#[]⟩] 25 (0, 0)) := by rw [hw1, hbe]; exact heap_alloc_new w _
  have hl1 : b < w1.heap.size := by rw [hw1, hbe]; simp
  have HA := Lib.hid (fun (w' : World) (hw' : Below w1.heap.size w1 w') => (hw'.block b hl1).trans a1)
  have HC := Lib.hid (fun (w' : World) (hw' : Below w1.heap.size w1 w') => six_at ((hw'.block b hl1).trans a1))
  have HD1 := Lib.hid (Below.refl w1.heap.size w1)
  have HW := Lib.hid hw1
  have HLE := Lib.hid (show w.heap.size ≤ b from by rw [hbe]; exact Nat.le_refl _)
  have HLT := Lib.hid hl1
  have HBE := Lib.hid hbe
  clear hw1 a1 hl1 hbe
  have HSZ := Lib.hid hs
  clear hs
  go_enter Try.func28, Try.ntmps28
  go_upto_region 1 with fail
  try rw [← HW.out]
  try rw [← HBE.out]
  clear HW
  have hh := H1.out w1
  go_wp2_with fail
  (with_reducible refine hh.mono ?_)
  clear hh
  rintro e w2 ⟨hb, ⟨ps, A, c, hk, rfl, ho⟩ | ⟨hk, rfl⟩⟩
  rotate_left
  · have HR := Lib.hid (rdk_nokey hk)
    have HD2 := Lib.hid hb
    clear hk hb
    have ab := HA.out w2 HD2.out
    have f0 : w2.frozen? ⟨b, 0, none⟩ = false := by simp [World.frozen?, ab]
    have f1 : w2.frozen? ⟨b, 1, none⟩ = false := by simp [World.frozen?, ab]
    have f2 : w2.frozen? ⟨b, 2, none⟩ = false := by simp [World.frozen?, ab]
    have f3 : w2.frozen? ⟨b, 3, none⟩ = false := by simp [World.frozen?, ab]
    have f4 : w2.frozen? ⟨b, 4, none⟩ = false := by simp [World.frozen?, ab]
    have f5 : w2.frozen? ⟨b, 5, none⟩ = false := by simp [World.frozen?, ab]
    have HAB := Lib.hid ab
    obtain ⟨c0, c1, c2, c3, c4, c5⟩ := HC.out w2 HD2.out
    clear ab
    go_wp2_with fail
    refine bodyPost_ret (results_cell_tmp2_row rfl _ _ b 25 _ (0, 0) _ rfl (set6 HAB.out _ _ _ _ _ _) Try.underlying25 rfl (by kernel_rfl)) rfl ?_
    exact rk_no HR.out (below6 (HB1.out.trans (HD2.out.mono HB1.out.size)) HLE.out _ _ _ _ _ _)
  have HD2 := Lib.hid hb
  clear hb
  by_cases hl : ps.length = 7
  rotate_left
  · have HR := Lib.hid (rdk_short hk hl)
    have hlI : ((ps.length : Int) != 7) = true := by rw [bne_iff_ne]; omega
    clear hk hl ho
    have ab := HA.out w2 HD2.out
    have f0 : w2.frozen? ⟨b, 0, none⟩ = false := by simp [World.frozen?, ab]
    have f1 : w2.frozen? ⟨b, 1, none⟩ = false := by simp [World.frozen?, ab]
    have f2 : w2.frozen? ⟨b, 2, none⟩ = false := by simp [World.frozen?, ab]
    have f3 : w2.frozen? ⟨b, 3, none⟩ = false := by simp [World.frozen?, ab]
    have f4 : w2.frozen? ⟨b, 4, none⟩ = false := by simp [World.frozen?, ab]
    have f5 : w2.frozen? ⟨b, 5, none⟩ = false := by simp [World.frozen?, ab]
    have HAB := Lib.hid ab
    obtain ⟨c0, c1, c2, c3, c4, c5⟩ := HC.out w2 HD2.out
    clear ab
    go_wp2_with fail
    refine bodyPost_ret (results_cell_tmp2_row rfl _ _ b 25 _ (0, 0) _ rfl (set6 HAB.out _ _ _ _ _ _) Try.underlying25 rfl (by kernel_rfl)) rfl ?_
    exact rk_no HR.out (below6 (HB1.out.trans (HD2.out.mono HB1.out.size)) HLE.out _ _ _ _ _ _)
  obtain ⟨⟨g, rfl, hg1, hg2⟩, hc⟩ := own_seven ho hl
  have hr := ho.row
  clear ho
  obtain ⟨p0, p1, p2, p3, p4, p5, p6, rfl⟩ : ∃ p0 p1 p2 p3 p4 p5 p6 : ByteArray, ps = [p0, p1, p2, p3, p4, p5, p6] := by
    match ps, hl with
    | [p0, p1, p2, p3, p4, p5, p6], _ => exact ⟨p0, p1, p2, p3, p4, p5, p6, rfl⟩
  have hz : ∀ p, p ∈ [p0, p1, p2, p3, p4, p5, p6] → p.size ≤ 1000000 := fun p hp => by have h1 := part_len hp; rw [← hk] at h1; have h2 := HSZ.out; rw [← bl_size] at h2; exact Nat.le_trans h1 h2
  have HZU := Lib.hid (show UsF ⟨p1, p2, p3⟩ ∧ UsF ⟨p4, p5, p6⟩ from ⟨⟨hz p1 (by simp), hz p2 (by simp), hz p3 (by simp)⟩, ⟨hz p4 (by simp), hz p5 (by simp), hz p6 (by simp)⟩⟩)
  clear hz hl
  simp only [List.length_cons, List.length_nil, Nat.zero_add, Nat.reduceAdd, List.map_cons, List.map_nil] at hr ⊢
  have HK := Lib.hid hk
  clear hk
  obtain ⟨w3, hw3⟩ : ∃ v, v = w2.alloc (.cells #[.string ⟨#[]⟩, .string ⟨#[]⟩, .string ⟨#[]⟩, .string ⟨#[]⟩, .string ⟨#[]⟩, .string ⟨#[]⟩] 25) := ⟨_, rfl⟩
  obtain ⟨T, hT⟩ : ∃ v, v = w2.heap.size := ⟨_, rfl⟩
  have bb : Below w2.heap.size w2 w3 := by rw [hw3]; exact al _ _
  have aT : w3.heap[T]? = some (.cells #[.string ⟨#[]⟩, .string ⟨#[]⟩, .string ⟨#[]⟩, .string ⟨#[]⟩, .string ⟨#[]⟩, .string ⟨#[]⟩] 25 (0, 0)) := by rw [hw3, hT]; exact heap_alloc_new w2 _
  have hlT : T < w3.heap.size := by rw [hw3, hT]; simp
  have hr3 := hr.belowSize bb
  have HTA := Lib.hid (fun (w' : World) (hw' : Below w3.heap.size w3 w') => (hw'.block T hlT).trans aT)
  have HTL := Lib.hid (show w1.heap.size ≤ T from by rw [hT]; exact HD2.out.size)
  have HGT := Lib.hid (show g < T from by rw [hT]; exact hg2)
  have HTG := Lib.hid (show g ≠ T from Nat.ne_of_lt HGT.out)
  have HTB := Lib.hid (show g ≠ b from by have := HLT.out; omega)
  have HR := Lib.hid (fun (w' : World) (hw' : Below w3.heap.size w3 w') => hr3.belowSize hw')
  have HD3 := Lib.hid (Below.step HD2.out bb)
  have HW := Lib.hid hw3
  have HTE := Lib.hid hT
  clear hw3 hT bb aT hlT hr hr3 hg1 hg2
  have hs14 := fun w => cut_14 g c hc w
  have hs47 := fun w => cut_47 g c hc w
  go_upto_region 5 with fail
  try rw [← HW.out]
  try rw [← HTE.out]
  clear HW
  go_cut [8, 9] from 23 to 28 (fun s8 s9 wx => ∃ g8 g9 : Nat, s8 = .pointer (some ⟨g8, 0, none⟩) ∧ s9 = .pointer (some ⟨g9, 0, none⟩) ∧ wx.heap[g8]? = some (.cells #[.string p1, .string p2, .string p3] 23 (0, 0)) ∧ wx.heap[g9]? = some (.cells #[.string p4, .string p5, .string p6] 23 (0, 0)) ∧ Below w3.heap.size w3 wx)
  case first =>
    refine wp_region_any (by kernel_rfl) ?_
    change wpAny _ _ _ _ _ _ _ (World.drew _)
    obtain ⟨u0, hu0⟩ : ∃ v, v = World.drew w3 := ⟨_, rfl⟩
    rw [← hu0]
    have hB : Below w3.heap.size w3 u0 := by rw [hu0]; exact (Below.refl _ _).drew
    clear hu0
    refine Reg.take_at (i := 0) (d := 23) (v := ?_) rfl rfl (by kernel_rfl) (by kernel_rfl) (by kernel_rfl) (fun _ _ _ h => h) (Or.inl ⟨by rfl, ?_⟩) ?_
    rotate_left 1
    · intro w; go_simp <;> with_reducible rfl
    simp only [Act.put, List.setIfInBounds_toArray, List.set_cons_zero, List.set_cons_succ]
    refine Reg.take_at (i := 1) (d := 24) (v := ?_) rfl rfl (by kernel_rfl) (by kernel_rfl) (by kernel_rfl) (fun _ _ _ h => h) (Or.inl ⟨by rfl, ?_⟩) ?_
    rotate_left 1
    · intro w; go_simp <;> with_reducible rfl
    simp only [Act.put, List.setIfInBounds_toArray, List.set_cons_zero, List.set_cons_succ]
    refine Reg.take_at (i := 3) (d := 26) (v := ?_) rfl rfl (by kernel_rfl) (by kernel_rfl) (by kernel_rfl) (fun _ _ _ h => h) (Or.inl ⟨by rfl, ?_⟩) ?_
    rotate_left 1
    · intro w; go_simp <;> with_reducible rfl
    simp only [Act.put, List.setIfInBounds_toArray, List.set_cons_zero, List.set_cons_succ]
    refine Reg.take_at (i := 4) (d := 27) (v := ?_) rfl rfl (by kernel_rfl) (by kernel_rfl) (by kernel_rfl) (fun _ _ _ h => h) (Or.inl ⟨by rfl, ?_⟩) ?_
    rotate_left 1
    · intro w; go_simp <;> with_reducible rfl
    simp only [Act.put, List.setIfInBounds_toArray, List.set_cons_zero, List.set_cons_succ]
    refine wpAny_ready (rs := [2, 6, 7]) (by decide +kernel) (by simp) ?_
    refine AllReady.cons rfl (fun KK hK => ?_) ?_
    · have hh := HU.out g 1 (c - 1) p1 p2 p3 u0 (row_sub (o := 1) (HR.out _ hB) 3)
      go_simp
      (with_reducible refine hh.mono ?_)
      rintro e' u1 ⟨rfl, bb⟩
      refine hK _ _ ?_
      clear hK KK hh
      have hB := Below.step hB bb
      clear bb
      refine wpAny_ready (rs := [5, 6, 7]) (by decide +kernel) (by simp) ?_
      refine AllReady.cons rfl (fun KK hK => ?_) ?_
      · have hh := HU.out g 4 (c - 4) p4 p5 p6 u1 (row_sub (o := 4) (HR.out _ hB) 3)
        go_simp
        (with_reducible refine hh.mono ?_)
        rintro e' u2 ⟨rfl, bb⟩
        refine hK _ _ ?_
        clear hK KK hh
        have hB := Below.step hB bb
        clear bb
        refine wpAny_ready (rs := [6, 7]) (by decide +kernel) (by simp) ?_
        refine AllReady.cons rfl (fun KK hK => ?_) ?_
        · go_simp
          refine hK _ _ ?_
          clear hK KK
          obtain ⟨u3, hw⟩ : ∃ v, v = u2.alloc (.cells #[.string ⟨#[]⟩, .string ⟨#[]⟩, .string ⟨#[]⟩] 23) := ⟨_, rfl⟩
          rw [← hw]
          have bb : Below u2.heap.size u2 u3 := by rw [hw]; exact al _ _
          obtain ⟨g8, hg⟩ : ∃ v, v = u2.heap.size := ⟨_, rfl⟩
          rw [← hg]
          have a8 : u3.heap[g8]? = some (.cells #[.string ⟨#[]⟩, .string ⟨#[]⟩, .string ⟨#[]⟩] 23 (0, 0)) := by rw [hw, hg]; exact heap_alloc_new u2 _
          have l8 : w3.heap.size ≤ g8 := by rw [hg]; exact hB.size
          have hB := Below.step hB bb
          clear hw hg bb
          refine wpAny_ready (rs := [7]) (by decide +kernel) (by simp) ?_
          refine AllReady.cons rfl (fun KK hK => ?_) AllReady.nil
          go_simp
          refine hK _ _ ?_
          clear hK KK
          obtain ⟨u4, hw⟩ : ∃ v, v = u3.alloc (.cells #[.string ⟨#[]⟩, .string ⟨#[]⟩, .string ⟨#[]⟩] 23) := ⟨_, rfl⟩
          rw [← hw]
          have bb : Below u3.heap.size u3 u4 := by rw [hw]; exact al _ _
          obtain ⟨g9, hg⟩ : ∃ v, v = u3.heap.size := ⟨_, rfl⟩
          rw [← hg]
          have a9 : u4.heap[g9]? = some (.cells #[.string ⟨#[]⟩, .string ⟨#[]⟩, .string ⟨#[]⟩] 23 (0, 0)) := by rw [hw, hg]; exact heap_alloc_new u3 _
          have l9 : w3.heap.size ≤ g9 := by rw [hg]; exact hB.size
          have lt := (Array.getElem?_eq_some_iff.1 a8).1
          have hne : g8 ≠ g9 := by omega
          have a8 := (bb.block g8 lt).trans a8
          clear lt
          have hB := Below.step hB bb
          clear hw hg bb
          refine wpAny_ready (rs := [8]) (by decide +kernel) (by simp) ?_
          refine AllReady.cons rfl (fun KK hK => ?_) AllReady.nil
          have f0 : u4.frozen? ⟨g8, 0, none⟩ = false := by simp [World.frozen?, a8]
          have f1 : u4.frozen? ⟨g8, 1, none⟩ = false := by simp [World.frozen?, a8]
          have f2 : u4.frozen? ⟨g8, 2, none⟩ = false := by simp [World.frozen?, a8]
          obtain ⟨d0, d1, d2⟩ := three_at a8
          go_simp
          refine hK _ _ ?_
          clear hK KK f0 f1 f2 d0 d1 d2
          obtain ⟨u5, hw⟩ : ∃ v, v = (((u4.setCell ⟨g8, 0, none⟩ (.string p1)).setCell ⟨g8, 1, none⟩ (.string p2)).setCell ⟨g8, 2, none⟩ (.string p3)) := ⟨_, rfl⟩
          rw [← hw]
          have a8' : u5.heap[g8]? = some (.cells #[.string p1, .string p2, .string p3] 23 (0, 0)) := by rw [hw]; exact set3 a8 _ _ _
          have a9' : u5.heap[g9]? = some (.cells #[.string ⟨#[]⟩, .string ⟨#[]⟩, .string ⟨#[]⟩] 23 (0, 0)) := by rw [hw]; exact (Below.heap_setCell _ _ _ _ hne.symm).trans ((Below.heap_setCell _ _ _ _ hne.symm).trans ((Below.heap_setCell _ _ _ _ hne.symm).trans a9))
          have hB : Below w3.heap.size w3 u5 := by rw [hw]; exact below3 hB l8 _ _ _
          clear hw a8 a9
          have a8 := a8'
          have a9 := a9'
          clear a8' a9'
          refine wpAny_ready (rs := [9]) (by decide +kernel) (by simp) ?_
          refine AllReady.cons rfl (fun KK hK => ?_) AllReady.nil
          have f0 : u5.frozen? ⟨g9, 0, none⟩ = false := by simp [World.frozen?, a9]
          have f1 : u5.frozen? ⟨g9, 1, none⟩ = false := by simp [World.frozen?, a9]
          have f2 : u5.frozen? ⟨g9, 2, none⟩ = false := by simp [World.frozen?, a9]
          obtain ⟨d0, d1, d2⟩ := three_at a9
          go_simp
          refine hK _ _ ?_
          clear hK KK f0 f1 f2 d0 d1 d2
          obtain ⟨u6, hw⟩ : ∃ v, v = (((u5.setCell ⟨g9, 0, none⟩ (.string p4)).setCell ⟨g9, 1, none⟩ (.string p5)).setCell ⟨g9, 2, none⟩ (.string p6)) := ⟨_, rfl⟩
          rw [← hw]
          have a9' : u6.heap[g9]? = some (.cells #[.string p4, .string p5, .string p6] 23 (0, 0)) := by rw [hw]; exact set3 a9 _ _ _
          have a8' : u6.heap[g8]? = some (.cells #[.string p1, .string p2, .string p3] 23 (0, 0)) := by rw [hw]; exact (Below.heap_setCell _ _ _ _ hne).trans ((Below.heap_setCell _ _ _ _ hne).trans ((Below.heap_setCell _ _ _ _ hne).trans a8))
          have hB : Below w3.heap.size w3 u6 := by rw [hw]; exact below3 hB l9 _ _ _
          clear hw a8 a9
          have a8 := a8'
          have a9 := a9'
          clear a8' a9'
          refine wpAny_done (by kernel_rfl) ?_ _
          go_wp2_with fail
          go_meet
          exact ⟨g8, g9, rfl, rfl, a8, a9, hB⟩
        refine AllReady.cons rfl (fun KK hK => ?_) AllReady.nil
        go_simp
        refine hK _ _ ?_
        clear hK KK
        obtain ⟨u3, hw⟩ : ∃ v, v = u2.alloc (.cells #[.string ⟨#[]⟩, .string ⟨#[]⟩, .string ⟨#[]⟩] 23) := ⟨_, rfl⟩
        rw [← hw]
        have bb : Below u2.heap.size u2 u3 := by rw [hw]; exact al _ _
        obtain ⟨g9, hg⟩ : ∃ v, v = u2.heap.size := ⟨_, rfl⟩
        rw [← hg]
        have a9 : u3.heap[g9]? = some (.cells #[.string ⟨#[]⟩, .string ⟨#[]⟩, .string ⟨#[]⟩] 23 (0, 0)) := by rw [hw, hg]; exact heap_alloc_new u2 _
        have l9 : w3.heap.size ≤ g9 := by rw [hg]; exact hB.size
        have hB := Below.step hB bb
        clear hw hg bb
        refine wpAny_ready (rs := [6]) (by decide +kernel) (by simp) ?_
        refine AllReady.cons rfl (fun KK hK => ?_) AllReady.nil
        go_simp
        refine hK _ _ ?_
        clear hK KK
        obtain ⟨u4, hw⟩ : ∃ v, v = u3.alloc (.cells #[.string ⟨#[]⟩, .string ⟨#[]⟩, .string ⟨#[]⟩] 23) := ⟨_, rfl⟩
        rw [← hw]
        have bb : Below u3.heap.size u3 u4 := by rw [hw]; exact al _ _
        obtain ⟨g8, hg⟩ : ∃ v, v = u3.heap.size := ⟨_, rfl⟩
        rw [← hg]
        have a8 : u4.heap[g8]? = some (.cells #[.string ⟨#[]⟩, .string ⟨#[]⟩, .string ⟨#[]⟩] 23 (0, 0)) := by rw [hw, hg]; exact heap_alloc_new u3 _
        have l8 : w3.heap.size ≤ g8 := by rw [hg]; exact hB.size
        have lt := (Array.getElem?_eq_some_iff.1 a9).1
        have hne : g8 ≠ g9 := by omega
        have a9 := (bb.block g9 lt).trans a9
        clear lt
        have hB := Below.step hB bb
        clear hw hg bb
        refine wpAny_ready (rs := [8]) (by decide +kernel) (by simp) ?_
        refine AllReady.cons rfl (fun KK hK => ?_) AllReady.nil
        have f0 : u4.frozen? ⟨g8, 0, none⟩ = false := by simp [World.frozen?, a8]
        have f1 : u4.frozen? ⟨g8, 1, none⟩ = false := by simp [World.frozen?, a8]
        have f2 : u4.frozen? ⟨g8, 2, none⟩ = false := by simp [World.frozen?, a8]
        obtain ⟨d0, d1, d2⟩ := three_at a8
        go_simp
        refine hK _ _ ?_
        clear hK KK f0 f1 f2 d0 d1 d2
        obtain ⟨u5, hw⟩ : ∃ v, v = (((u4.setCell ⟨g8, 0, none⟩ (.string p1)).setCell ⟨g8, 1, none⟩ (.string p2)).setCell ⟨g8, 2, none⟩ (.string p3)) := ⟨_, rfl⟩
        rw [← hw]
        have a8' : u5.heap[g8]? = some (.cells #[.string p1, .string p2, .string p3] 23 (0, 0)) := by rw [hw]; exact set3 a8 _ _ _
        have a9' : u5.heap[g9]? = some (.cells #[.string ⟨#[]⟩, .string ⟨#[]⟩, .string ⟨#[]⟩] 23 (0, 0)) := by rw [hw]; exact (Below.heap_setCell _ _ _ _ hne.symm).trans ((Below.heap_setCell _ _ _ _ hne.symm).trans ((Below.heap_setCell _ _ _ _ hne.symm).trans a9))
        have hB : Below w3.heap.size w3 u5 := by rw [hw]; exact below3 hB l8 _ _ _
        clear hw a8 a9
        have a8 := a8'
        have a9 := a9'
        clear a8' a9'
        refine wpAny_ready (rs := [9]) (by decide +kernel) (by simp) ?_
        refine AllReady.cons rfl (fun KK hK => ?_) AllReady.nil
        have f0 : u5.frozen? ⟨g9, 0, none⟩ = false := by simp [World.frozen?, a9]
        have f1 : u5.frozen? ⟨g9, 1, none⟩ = false := by simp [World.frozen?, a9]
        have f2 : u5.frozen? ⟨g9, 2, none⟩ = false := by simp [World.frozen?, a9]
        obtain ⟨d0, d1, d2⟩ := three_at a9
        go_simp
        refine hK _ _ ?_
        clear hK KK f0 f1 f2 d0 d1 d2
        obtain ⟨u6, hw⟩ : ∃ v, v = (((u5.setCell ⟨g9, 0, none⟩ (.string p4)).setCell ⟨g9, 1, none⟩ (.string p5)).setCell ⟨g9, 2, none⟩ (.string p6)) := ⟨_, rfl⟩
        rw [← hw]
        have a9' : u6.heap[g9]? = some (.cells #[.string p4, .string p5, .string p6] 23 (0, 0)) := by rw [hw]; exact set3 a9 _ _ _
        have a8' : u6.heap[g8]? = some (.cells #[.string p1, .string p2, .string p3] 23 (0, 0)) := by rw [hw]; exact (Below.heap_setCell _ _ _ _ hne).trans ((Below.heap_setCell _ _ _ _ hne).trans ((Below.heap_setCell _ _ _ _ hne).trans a8))
        have hB : Below w3.heap.size w3 u6 := by rw [hw]; exact below3 hB l9 _ _ _
        clear hw a8 a9
        have a8 := a8'
        have a9 := a9'
        clear a8' a9'
        refine wpAny_done (by kernel_rfl) ?_ _
        go_wp2_with fail
        go_meet
        exact ⟨g8, g9, rfl, rfl, a8, a9, hB⟩
      refine AllReady.cons rfl (fun KK hK => ?_) ?_
      · go_simp
        refine hK _ _ ?_
        clear hK KK
        obtain ⟨u2, hw⟩ : ∃ v, v = u1.alloc (.cells #[.string ⟨#[]⟩, .string ⟨#[]⟩, .string ⟨#[]⟩] 23) := ⟨_, rfl⟩
        rw [← hw]
        have bb : Below u1.heap.size u1 u2 := by rw [hw]; exact al _ _
        obtain ⟨g8, hg⟩ : ∃ v, v = u1.heap.size := ⟨_, rfl⟩
        rw [← hg]
        have a8 : u2.heap[g8]? = some (.cells #[.string ⟨#[]⟩, .string ⟨#[]⟩, .string ⟨#[]⟩] 23 (0, 0)) := by rw [hw, hg]; exact heap_alloc_new u1 _
        have l8 : w3.heap.size ≤ g8 := by rw [hg]; exact hB.size
        have hB := Below.step hB bb
        clear hw hg bb
        refine wpAny_ready (rs := [5, 7]) (by decide +kernel) (by simp) ?_
        refine AllReady.cons rfl (fun KK hK => ?_) ?_
        · have hh := HU.out g 4 (c - 4) p4 p5 p6 u2 (row_sub (o := 4) (HR.out _ hB) 3)
          go_simp
          (with_reducible refine hh.mono ?_)
          rintro e' u3 ⟨rfl, bb⟩
          refine hK _ _ ?_
          clear hK KK hh
          have a8 := (bb.block g8 (Array.getElem?_eq_some_iff.1 a8).1).trans a8
          have hB := Below.step hB bb
          clear bb
          refine wpAny_ready (rs := [7]) (by decide +kernel) (by simp) ?_
          refine AllReady.cons rfl (fun KK hK => ?_) AllReady.nil
          go_simp
          refine hK _ _ ?_
          clear hK KK
          obtain ⟨u4, hw⟩ : ∃ v, v = u3.alloc (.cells #[.string ⟨#[]⟩, .string ⟨#[]⟩, .string ⟨#[]⟩] 23) := ⟨_, rfl⟩
          rw [← hw]
          have bb : Below u3.heap.size u3 u4 := by rw [hw]; exact al _ _
          obtain ⟨g9, hg⟩ : ∃ v, v = u3.heap.size := ⟨_, rfl⟩
          rw [← hg]
          have a9 : u4.heap[g9]? = some (.cells #[.string ⟨#[]⟩, .string ⟨#[]⟩, .string ⟨#[]⟩] 23 (0, 0)) := by rw [hw, hg]; exact heap_alloc_new u3 _
          have l9 : w3.heap.size ≤ g9 := by rw [hg]; exact hB.size
          have lt := (Array.getElem?_eq_some_iff.1 a8).1
          have hne : g8 ≠ g9 := by omega
          have a8 := (bb.block g8 lt).trans a8
          clear lt
          have hB := Below.step hB bb
          clear hw hg bb
          refine wpAny_ready (rs := [8]) (by decide +kernel) (by simp) ?_
          refine AllReady.cons rfl (fun KK hK => ?_) AllReady.nil
          have f0 : u4.frozen? ⟨g8, 0, none⟩ = false := by simp [World.frozen?, a8]
          have f1 : u4.frozen? ⟨g8, 1, none⟩ = false := by simp [World.frozen?, a8]
          have f2 : u4.frozen? ⟨g8, 2, none⟩ = false := by simp [World.frozen?, a8]
          obtain ⟨d0, d1, d2⟩ := three_at a8
          go_simp
          refine hK _ _ ?_
          clear hK KK f0 f1 f2 d0 d1 d2
          obtain ⟨u5, hw⟩ : ∃ v, v = (((u4.setCell ⟨g8, 0, none⟩ (.string p1)).setCell ⟨g8, 1, none⟩ (.string p2)).setCell ⟨g8, 2, none⟩ (.string p3)) := ⟨_, rfl⟩
          rw [← hw]
          have a8' : u5.heap[g8]? = some (.cells #[.string p1, .string p2, .string p3] 23 (0, 0)) := by rw [hw]; exact set3 a8 _ _ _
          have a9' : u5.heap[g9]? = some (.cells #[.string ⟨#[]⟩, .string ⟨#[]⟩, .string ⟨#[]⟩] 23 (0, 0)) := by rw [hw]; exact (Below.heap_setCell _ _ _ _ hne.symm).trans ((Below.heap_setCell _ _ _ _ hne.symm).trans ((Below.heap_setCell _ _ _ _ hne.symm).trans a9))
          have hB : Below w3.heap.size w3 u5 := by rw [hw]; exact below3 hB l8 _ _ _
          clear hw a8 a9
          have a8 := a8'
          have a9 := a9'
          clear a8' a9'
          refine wpAny_ready (rs := [9]) (by decide +kernel) (by simp) ?_
          refine AllReady.cons rfl (fun KK hK => ?_) AllReady.nil
          have f0 : u5.frozen? ⟨g9, 0, none⟩ = false := by simp [World.frozen?, a9]
          have f1 : u5.frozen? ⟨g9, 1, none⟩ = false := by simp [World.frozen?, a9]
          have f2 : u5.frozen? ⟨g9, 2, none⟩ = false := by simp [World.frozen?, a9]
          obtain ⟨d0, d1, d2⟩ := three_at a9
          go_simp
          refine hK _ _ ?_
          clear hK KK f0 f1 f2 d0 d1 d2
          obtain ⟨u6, hw⟩ : ∃ v, v = (((u5.setCell ⟨g9, 0, none⟩ (.string p4)).setCell ⟨g9, 1, none⟩ (.string p5)).setCell ⟨g9, 2, none⟩ (.string p6)) := ⟨_, rfl⟩
          rw [← hw]
          have a9' : u6.heap[g9]? = some (.cells #[.string p4, .string p5, .string p6] 23 (0, 0)) := by rw [hw]; exact set3 a9 _ _ _
          have a8' : u6.heap[g8]? = some (.cells #[.string p1, .string p2, .string p3] 23 (0, 0)) := by rw [hw]; exact (Below.heap_setCell _ _ _ _ hne).trans ((Below.heap_setCell _ _ _ _ hne).trans ((Below.heap_setCell _ _ _ _ hne).trans a8))
          have hB : Below w3.heap.size w3 u6 := by rw [hw]; exact below3 hB l9 _ _ _
          clear hw a8 a9
          have a8 := a8'
          have a9 := a9'
          clear a8' a9'
          refine wpAny_done (by kernel_rfl) ?_ _
          go_wp2_with fail
          go_meet
          exact ⟨g8, g9, rfl, rfl, a8, a9, hB⟩
        refine AllReady.cons rfl (fun KK hK => ?_) AllReady.nil
        go_simp
        refine hK _ _ ?_
        clear hK KK
        obtain ⟨u3, hw⟩ : ∃ v, v = u2.alloc (.cells #[.string ⟨#[]⟩, .string ⟨#[]⟩, .string ⟨#[]⟩] 23) := ⟨_, rfl⟩
        rw [← hw]
        have bb : Below u2.heap.size u2 u3 := by rw [hw]; exact al _ _
        obtain ⟨g9, hg⟩ : ∃ v, v = u2.heap.size := ⟨_, rfl⟩
        rw [← hg]
        have a9 : u3.heap[g9]? = some (.cells #[.string ⟨#[]⟩, .string ⟨#[]⟩, .string ⟨#[]⟩] 23 (0, 0)) := by rw [hw, hg]; exact heap_alloc_new u2 _
        have l9 : w3.heap.size ≤ g9 := by rw [hg]; exact hB.size
        have lt := (Array.getElem?_eq_some_iff.1 a8).1
        have hne : g8 ≠ g9 := by omega
        have a8 := (bb.block g8 lt).trans a8
        clear lt
        have hB := Below.step hB bb
        clear hw hg bb
        refine wpAny_ready (rs := [5]) (by decide +kernel) (by simp) ?_
        refine AllReady.cons rfl (fun KK hK => ?_) AllReady.nil
        have hh := HU.out g 4 (c - 4) p4 p5 p6 u3 (row_sub (o := 4) (HR.out _ hB) 3)
        go_simp
        (with_reducible refine hh.mono ?_)
        rintro e' u4 ⟨rfl, bb⟩
        refine hK _ _ ?_
        clear hK KK hh
        have a8 := (bb.block g8 (Array.getElem?_eq_some_iff.1 a8).1).trans a8
        have a9 := (bb.block g9 (Array.getElem?_eq_some_iff.1 a9).1).trans a9
        have hB := Below.step hB bb
        clear bb
        refine wpAny_ready (rs := [8]) (by decide +kernel) (by simp) ?_
        refine AllReady.cons rfl (fun KK hK => ?_) AllReady.nil
        have f0 : u4.frozen? ⟨g8, 0, none⟩ = false := by simp [World.frozen?, a8]
        have f1 : u4.frozen? ⟨g8, 1, none⟩ = false := by simp [World.frozen?, a8]
        have f2 : u4.frozen? ⟨g8, 2, none⟩ = false := by simp [World.frozen?, a8]
        obtain ⟨d0, d1, d2⟩ := three_at a8
        go_simp
        refine hK _ _ ?_
        clear hK KK f0 f1 f2 d0 d1 d2
        obtain ⟨u5, hw⟩ : ∃ v, v = (((u4.setCell ⟨g8, 0, none⟩ (.string p1)).setCell ⟨g8, 1, none⟩ (.string p2)).setCell ⟨g8, 2, none⟩ (.string p3)) := ⟨_, rfl⟩
        rw [← hw]
        have a8' : u5.heap[g8]? = some (.cells #[.string p1, .string p2, .string p3] 23 (0, 0)) := by rw [hw]; exact set3 a8 _ _ _
        have a9' : u5.heap[g9]? = some (.cells #[.string ⟨#[]⟩, .string ⟨#[]⟩, .string ⟨#[]⟩] 23 (0, 0)) := by rw [hw]; exact (Below.heap_setCell _ _ _ _ hne.symm).trans ((Below.heap_setCell _ _ _ _ hne.symm).trans ((Below.heap_setCell _ _ _ _ hne.symm).trans a9))
        have hB : Below w3.heap.size w3 u5 := by rw [hw]; exact below3 hB l8 _ _ _
        clear hw a8 a9
        have a8 := a8'
        have a9 := a9'
        clear a8' a9'
        refine wpAny_ready (rs := [9]) (by decide +kernel) (by simp) ?_
        refine AllReady.cons rfl (fun KK hK => ?_) AllReady.nil
        have f0 : u5.frozen? ⟨g9, 0, none⟩ = false := by simp [World.frozen?, a9]
        have f1 : u5.frozen? ⟨g9, 1, none⟩ = false := by simp [World.frozen?, a9]
        have f2 : u5.frozen? ⟨g9, 2, none⟩ = false := by simp [World.frozen?, a9]
        obtain ⟨d0, d1, d2⟩ := three_at a9
        go_simp
        refine hK _ _ ?_
        clear hK KK f0 f1 f2 d0 d1 d2
        obtain ⟨u6, hw⟩ : ∃ v, v = (((u5.setCell ⟨g9, 0, none⟩ (.string p4)).setCell ⟨g9, 1, none⟩ (.string p5)).setCell ⟨g9, 2, none⟩ (.string p6)) := ⟨_, rfl⟩
        rw [← hw]
        have a9' : u6.heap[g9]? = some (.cells #[.string p4, .string p5, .string p6] 23 (0, 0)) := by rw [hw]; exact set3 a9 _ _ _
        have a8' : u6.heap[g8]? = some (.cells #[.string p1, .string p2, .string p3] 23 (0, 0)) := by rw [hw]; exact (Below.heap_setCell _ _ _ _ hne).trans ((Below.heap_setCell _ _ _ _ hne).trans ((Below.heap_setCell _ _ _ _ hne).trans a8))
        have hB : Below w3.heap.size w3 u6 := by rw [hw]; exact below3 hB l9 _ _ _
        clear hw a8 a9
        have a8 := a8'
        have a9 := a9'
        clear a8' a9'
        refine wpAny_done (by kernel_rfl) ?_ _
        go_wp2_with fail
        go_meet
        exact ⟨g8, g9, rfl, rfl, a8, a9, hB⟩
      refine AllReady.cons rfl (fun KK hK => ?_) AllReady.nil
      go_simp
      refine hK _ _ ?_
      clear hK KK
      obtain ⟨u2, hw⟩ : ∃ v, v = u1.alloc (.cells #[.string ⟨#[]⟩, .string ⟨#[]⟩, .string ⟨#[]⟩] 23) := ⟨_, rfl⟩
      rw [← hw]
      have bb : Below u1.heap.size u1 u2 := by rw [hw]; exact al _ _
      obtain ⟨g9, hg⟩ : ∃ v, v = u1.heap.size := ⟨_, rfl⟩
      rw [← hg]
      have a9 : u2.heap[g9]? = some (.cells #[.string ⟨#[]⟩, .string ⟨#[]⟩, .string ⟨#[]⟩] 23 (0, 0)) := by rw [hw, hg]; exact heap_alloc_new u1 _
      have l9 : w3.heap.size ≤ g9 := by rw [hg]; exact hB.size
      have hB := Below.step hB bb
      clear hw hg bb
      refine wpAny_ready (rs := [5, 6]) (by decide +kernel) (by simp) ?_
      refine AllReady.cons rfl (fun KK hK => ?_) ?_
      · have hh := HU.out g 4 (c - 4) p4 p5 p6 u2 (row_sub (o := 4) (HR.out _ hB) 3)
        go_simp
        (with_reducible refine hh.mono ?_)
        rintro e' u3 ⟨rfl, bb⟩
        refine hK _ _ ?_
        clear hK KK hh
        have a9 := (bb.block g9 (Array.getElem?_eq_some_iff.1 a9).1).trans a9
        have hB := Below.step hB bb
        clear bb
        refine wpAny_ready (rs := [6]) (by decide +kernel) (by simp) ?_
        refine AllReady.cons rfl (fun KK hK => ?_) AllReady.nil
        go_simp
        refine hK _ _ ?_
        clear hK KK
        obtain ⟨u4, hw⟩ : ∃ v, v = u3.alloc (.cells #[.string ⟨#[]⟩, .string ⟨#[]⟩, .string ⟨#[]⟩] 23) := ⟨_, rfl⟩
        rw [← hw]
        have bb : Below u3.heap.size u3 u4 := by rw [hw]; exact al _ _
        obtain ⟨g8, hg⟩ : ∃ v, v = u3.heap.size := ⟨_, rfl⟩
        rw [← hg]
        have a8 : u4.heap[g8]? = some (.cells #[.string ⟨#[]⟩, .string ⟨#[]⟩, .string ⟨#[]⟩] 23 (0, 0)) := by rw [hw, hg]; exact heap_alloc_new u3 _
        have l8 : w3.heap.size ≤ g8 := by rw [hg]; exact hB.size
        have lt := (Array.getElem?_eq_some_iff.1 a9).1
        have hne : g8 ≠ g9 := by omega
        have a9 := (bb.block g9 lt).trans a9
        clear lt
        have hB := Below.step hB bb
        clear hw hg bb
        refine wpAny_ready (rs := [8]) (by decide +kernel) (by simp) ?_
        refine AllReady.cons rfl (fun KK hK => ?_) AllReady.nil
        have f0 : u4.frozen? ⟨g8, 0, none⟩ = false := by simp [World.frozen?, a8]
        have f1 : u4.frozen? ⟨g8, 1, none⟩ = false := by simp [World.frozen?, a8]
        have f2 : u4.frozen? ⟨g8, 2, none⟩ = false := by simp [World.frozen?, a8]
        obtain ⟨d0, d1, d2⟩ := three_at a8
        go_simp
        refine hK _ _ ?_
        clear hK KK f0 f1 f2 d0 d1 d2
        obtain ⟨u5, hw⟩ : ∃ v, v = (((u4.setCell ⟨g8, 0, none⟩ (.string p1)).setCell ⟨g8, 1, none⟩ (.string p2)).setCell ⟨g8, 2, none⟩ (.string p3)) := ⟨_, rfl⟩
        rw [← hw]
        have a8' : u5.heap[g8]? = some (.cells #[.string p1, .string p2, .string p3] 23 (0, 0)) := by rw [hw]; exact set3 a8 _ _ _
        have a9' : u5.heap[g9]? = some (.cells #[.string ⟨#[]⟩, .string ⟨#[]⟩, .string ⟨#[]⟩] 23 (0, 0)) := by rw [hw]; exact (Below.heap_setCell _ _ _ _ hne.symm).trans ((Below.heap_setCell _ _ _ _ hne.symm).trans ((Below.heap_setCell _ _ _ _ hne.symm).trans a9))
        have hB : Below w3.heap.size w3 u5 := by rw [hw]; exact below3 hB l8 _ _ _
        clear hw a8 a9
        have a8 := a8'
        have a9 := a9'
        clear a8' a9'
        refine wpAny_ready (rs := [9]) (by decide +kernel) (by simp) ?_
        refine AllReady.cons rfl (fun KK hK => ?_) AllReady.nil
        have f0 : u5.frozen? ⟨g9, 0, none⟩ = false := by simp [World.frozen?, a9]
        have f1 : u5.frozen? ⟨g9, 1, none⟩ = false := by simp [World.frozen?, a9]
        have f2 : u5.frozen? ⟨g9, 2, none⟩ = false := by simp [World.frozen?, a9]
        obtain ⟨d0, d1, d2⟩ := three_at a9
        go_simp
        refine hK _ _ ?_
        clear hK KK f0 f1 f2 d0 d1 d2
        obtain ⟨u6, hw⟩ : ∃ v, v = (((u5.setCell ⟨g9, 0, none⟩ (.string p4)).setCell ⟨g9, 1, none⟩ (.string p5)).setCell ⟨g9, 2, none⟩ (.string p6)) := ⟨_, rfl⟩
        rw [← hw]
        have a9' : u6.heap[g9]? = some (.cells #[.string p4, .string p5, .string p6] 23 (0, 0)) := by rw [hw]; exact set3 a9 _ _ _
        have a8' : u6.heap[g8]? = some (.cells #[.string p1, .string p2, .string p3] 23 (0, 0)) := by rw [hw]; exact (Below.heap_setCell _ _ _ _ hne).trans ((Below.heap_setCell _ _ _ _ hne).trans ((Below.heap_setCell _ _ _ _ hne).trans a8))
        have hB : Below w3.heap.size w3 u6 := by rw [hw]; exact below3 hB l9 _ _ _
        clear hw a8 a9
        have a8 := a8'
        have a9 := a9'
        clear a8' a9'
        refine wpAny_done (by kernel_rfl) ?_ _
        go_wp2_with fail
        go_meet
        exact ⟨g8, g9, rfl, rfl, a8, a9, hB⟩
      refine AllReady.cons rfl (fun KK hK => ?_) AllReady.nil
      go_simp
      refine hK _ _ ?_
      clear hK KK
      obtain ⟨u3, hw⟩ : ∃ v, v = u2.alloc (.cells #[.string ⟨#[]⟩, .string ⟨#[]⟩, .string ⟨#[]⟩] 23) := ⟨_, rfl⟩
      rw [← hw]
      have bb : Below u2.heap.size u2 u3 := by rw [hw]; exact al _ _
      obtain ⟨g8, hg⟩ : ∃ v, v = u2.heap.size := ⟨_, rfl⟩
      rw [← hg]
      have a8 : u3.heap[g8]? = some (.cells #[.string ⟨#[]⟩, .string ⟨#[]⟩, .string ⟨#[]⟩] 23 (0, 0)) := by rw [hw, hg]; exact heap_alloc_new u2 _
      have l8 : w3.heap.size ≤ g8 := by rw [hg]; exact hB.size
      have lt := (Array.getElem?_eq_some_iff.1 a9).1
      have hne : g8 ≠ g9 := by omega
      have a9 := (bb.block g9 lt).trans a9
      clear lt
      have hB := Below.step hB bb
      clear hw hg bb
      refine wpAny_ready (rs := [5]) (by decide +kernel) (by simp) ?_
      refine AllReady.cons rfl (fun KK hK => ?_) AllReady.nil
      have hh := HU.out g 4 (c - 4) p4 p5 p6 u3 (row_sub (o := 4) (HR.out _ hB) 3)
      go_simp
      (with_reducible refine hh.mono ?_)
      rintro e' u4 ⟨rfl, bb⟩
      refine hK _ _ ?_
      clear hK KK hh
      have a8 := (bb.block g8 (Array.getElem?_eq_some_iff.1 a8).1).trans a8
      have a9 := (bb.block g9 (Array.getElem?_eq_some_iff.1 a9).1).trans a9
      have hB := Below.step hB bb
      clear bb
      refine wpAny_ready (rs := [8]) (by decide +kernel) (by simp) ?_
      refine AllReady.cons rfl (fun KK hK => ?_) AllReady.nil
      have f0 : u4.frozen? ⟨g8, 0, none⟩ = false := by simp [World.frozen?, a8]
      have f1 : u4.frozen? ⟨g8, 1, none⟩ = false := by simp [World.frozen?, a8]
      have f2 : u4.frozen? ⟨g8, 2, none⟩ = false := by simp [World.frozen?, a8]
      obtain ⟨d0, d1, d2⟩ := three_at a8
      go_simp
      refine hK _ _ ?_
      clear hK KK f0 f1 f2 d0 d1 d2
      obtain ⟨u5, hw⟩ : ∃ v, v = (((u4.setCell ⟨g8, 0, none⟩ (.string p1)).setCell ⟨g8, 1, none⟩ (.string p2)).setCell ⟨g8, 2, none⟩ (.string p3)) := ⟨_, rfl⟩
      rw [← hw]
      have a8' : u5.heap[g8]? = some (.cells #[.string p1, .string p2, .string p3] 23 (0, 0)) := by rw [hw]; exact set3 a8 _ _ _
      have a9' : u5.heap[g9]? = some (.cells #[.string ⟨#[]⟩, .string ⟨#[]⟩, .string ⟨#[]⟩] 23 (0, 0)) := by rw [hw]; exact (Below.heap_setCell _ _ _ _ hne.symm).trans ((Below.heap_setCell _ _ _ _ hne.symm).trans ((Below.heap_setCell _ _ _ _ hne.symm).trans a9))
      have hB : Below w3.heap.size w3 u5 := by rw [hw]; exact below3 hB l8 _ _ _
      clear hw a8 a9
      have a8 := a8'
      have a9 := a9'
      clear a8' a9'
      refine wpAny_ready (rs := [9]) (by decide +kernel) (by simp) ?_
      refine AllReady.cons rfl (fun KK hK => ?_) AllReady.nil
      have f0 : u5.frozen? ⟨g9, 0, none⟩ = false := by simp [World.frozen?, a9]
      have f1 : u5.frozen? ⟨g9, 1, none⟩ = false := by simp [World.frozen?, a9]
      have f2 : u5.frozen? ⟨g9, 2, none⟩ = false := by simp [World.frozen?, a9]
      obtain ⟨d0, d1, d2⟩ := three_at a9
      go_simp
      refine hK _ _ ?_
      clear hK KK f0 f1 f2 d0 d1 d2
      obtain ⟨u6, hw⟩ : ∃ v, v = (((u5.setCell ⟨g9, 0, none⟩ (.string p4)).setCell ⟨g9, 1, none⟩ (.string p5)).setCell ⟨g9, 2, none⟩ (.string p6)) := ⟨_, rfl⟩
      rw [← hw]
      have a9' : u6.heap[g9]? = some (.cells #[.string p4, .string p5, .string p6] 23 (0, 0)) := by rw [hw]; exact set3 a9 _ _ _
      have a8' : u6.heap[g8]? = some (.cells #[.string p1, .string p2, .string p3] 23 (0, 0)) := by rw [hw]; exact (Below.heap_setCell _ _ _ _ hne).trans ((Below.heap_setCell _ _ _ _ hne).trans ((Below.heap_setCell _ _ _ _ hne).trans a8))
      have hB : Below w3.heap.size w3 u6 := by rw [hw]; exact below3 hB l9 _ _ _
      clear hw a8 a9
      have a8 := a8'
      have a9 := a9'
      clear a8' a9'
      refine wpAny_done (by kernel_rfl) ?_ _
      go_wp2_with fail
      go_meet
      exact ⟨g8, g9, rfl, rfl, a8, a9, hB⟩
    refine AllReady.cons rfl (fun KK hK => ?_) ?_
    · go_simp
      refine hK _ _ ?_
      clear hK KK
      obtain ⟨u1, hw⟩ : ∃ v, v = u0.alloc (.cells #[.string ⟨#[]⟩, .string ⟨#[]⟩, .string ⟨#[]⟩] 23) := ⟨_, rfl⟩
      rw [← hw]
      have bb : Below u0.heap.size u0 u1 := by rw [hw]; exact al _ _
      obtain ⟨g8, hg⟩ : ∃ v, v = u0.heap.size := ⟨_, rfl⟩
      rw [← hg]
      have a8 : u1.heap[g8]? = some (.cells #[.string ⟨#[]⟩, .string ⟨#[]⟩, .string ⟨#[]⟩] 23 (0, 0)) := by rw [hw, hg]; exact heap_alloc_new u0 _
      have l8 : w3.heap.size ≤ g8 := by rw [hg]; exact hB.size
      have hB := Below.step hB bb
      clear hw hg bb
      refine wpAny_ready (rs := [2, 7]) (by decide +kernel) (by simp) ?_
      refine AllReady.cons rfl (fun KK hK => ?_) ?_
      · have hh := HU.out g 1 (c - 1) p1 p2 p3 u1 (row_sub (o := 1) (HR.out _ hB) 3)
        go_simp
        (with_reducible refine hh.mono ?_)
        rintro e' u2 ⟨rfl, bb⟩
        refine hK _ _ ?_
        clear hK KK hh
        have a8 := (bb.block g8 (Array.getElem?_eq_some_iff.1 a8).1).trans a8
        have hB := Below.step hB bb
        clear bb
        refine wpAny_ready (rs := [5, 7]) (by decide +kernel) (by simp) ?_
        refine AllReady.cons rfl (fun KK hK => ?_) ?_
        · have hh := HU.out g 4 (c - 4) p4 p5 p6 u2 (row_sub (o := 4) (HR.out _ hB) 3)
          go_simp
          (with_reducible refine hh.mono ?_)
          rintro e' u3 ⟨rfl, bb⟩
          refine hK _ _ ?_
          clear hK KK hh
          have a8 := (bb.block g8 (Array.getElem?_eq_some_iff.1 a8).1).trans a8
          have hB := Below.step hB bb
          clear bb
          refine wpAny_ready (rs := [7]) (by decide +kernel) (by simp) ?_
          refine AllReady.cons rfl (fun KK hK => ?_) AllReady.nil
          go_simp
          refine hK _ _ ?_
          clear hK KK
          obtain ⟨u4, hw⟩ : ∃ v, v = u3.alloc (.cells #[.string ⟨#[]⟩, .string ⟨#[]⟩, .string ⟨#[]⟩] 23) := ⟨_, rfl⟩
          rw [← hw]
          have bb : Below u3.heap.size u3 u4 := by rw [hw]; exact al _ _
          obtain ⟨g9, hg⟩ : ∃ v, v = u3.heap.size := ⟨_, rfl⟩
          rw [← hg]
          have a9 : u4.heap[g9]? = some (.cells #[.string ⟨#[]⟩, .string ⟨#[]⟩, .string ⟨#[]⟩] 23 (0, 0)) := by rw [hw, hg]; exact heap_alloc_new u3 _
          have l9 : w3.heap.size ≤ g9 := by rw [hg]; exact hB.size
          have lt := (Array.getElem?_eq_some_iff.1 a8).1
          have hne : g8 ≠ g9 := by omega
          have a8 := (bb.block g8 lt).trans a8
          clear lt
          have hB := Below.step hB bb
          clear hw hg bb
          refine wpAny_ready (rs := [8]) (by decide +kernel) (by simp) ?_
          refine AllReady.cons rfl (fun KK hK => ?_) AllReady.nil
          have f0 : u4.frozen? ⟨g8, 0, none⟩ = false := by simp [World.frozen?, a8]
          have f1 : u4.frozen? ⟨g8, 1, none⟩ = false := by simp [World.frozen?, a8]
          have f2 : u4.frozen? ⟨g8, 2, none⟩ = false := by simp [World.frozen?, a8]
          obtain ⟨d0, d1, d2⟩ := three_at a8
          go_simp
          refine hK _ _ ?_
          clear hK KK f0 f1 f2 d0 d1 d2
          obtain ⟨u5, hw⟩ : ∃ v, v = (((u4.setCell ⟨g8, 0, none⟩ (.string p1)).setCell ⟨g8, 1, none⟩ (.string p2)).setCell ⟨g8, 2, none⟩ (.string p3)) := ⟨_, rfl⟩
          rw [← hw]
          have a8' : u5.heap[g8]? = some (.cells #[.string p1, .string p2, .string p3] 23 (0, 0)) := by rw [hw]; exact set3 a8 _ _ _
          have a9' : u5.heap[g9]? = some (.cells #[.string ⟨#[]⟩, .string ⟨#[]⟩, .string ⟨#[]⟩] 23 (0, 0)) := by rw [hw]; exact (Below.heap_setCell _ _ _ _ hne.symm).trans ((Below.heap_setCell _ _ _ _ hne.symm).trans ((Below.heap_setCell _ _ _ _ hne.symm).trans a9))
          have hB : Below w3.heap.size w3 u5 := by rw [hw]; exact below3 hB l8 _ _ _
          clear hw a8 a9
          have a8 := a8'
          have a9 := a9'
          clear a8' a9'
          refine wpAny_ready (rs := [9]) (by decide +kernel) (by simp) ?_
          refine AllReady.cons rfl (fun KK hK => ?_) AllReady.nil
          have f0 : u5.frozen? ⟨g9, 0, none⟩ = false := by simp [World.frozen?, a9]
          have f1 : u5.frozen? ⟨g9, 1, none⟩ = false := by simp [World.frozen?, a9]
          have f2 : u5.frozen? ⟨g9, 2, none⟩ = false := by simp [World.frozen?, a9]
          obtain ⟨d0, d1, d2⟩ := three_at a9
          go_simp
          refine hK _ _ ?_
          clear hK KK f0 f1 f2 d0 d1 d2
          obtain ⟨u6, hw⟩ : ∃ v, v = (((u5.setCell ⟨g9, 0, none⟩ (.string p4)).setCell ⟨g9, 1, none⟩ (.string p5)).setCell ⟨g9, 2, none⟩ (.string p6)) := ⟨_, rfl⟩
          rw [← hw]
          have a9' : u6.heap[g9]? = some (.cells #[.string p4, .string p5, .string p6] 23 (0, 0)) := by rw [hw]; exact set3 a9 _ _ _
          have a8' : u6.heap[g8]? = some (.cells #[.string p1, .string p2, .string p3] 23 (0, 0)) := by rw [hw]; exact (Below.heap_setCell _ _ _ _ hne).trans ((Below.heap_setCell _ _ _ _ hne).trans ((Below.heap_setCell _ _ _ _ hne).trans a8))
          have hB : Below w3.heap.size w3 u6 := by rw [hw]; exact below3 hB l9 _ _ _
          clear hw a8 a9
          have a8 := a8'
          have a9 := a9'
          clear a8' a9'
          refine wpAny_done (by kernel_rfl) ?_ _
          go_wp2_with fail
          go_meet
          exact ⟨g8, g9, rfl, rfl, a8, a9, hB⟩
        refine AllReady.cons rfl (fun KK hK => ?_) AllReady.nil
        go_simp
        refine hK _ _ ?_
        clear hK KK
        obtain ⟨u3, hw⟩ : ∃ v, v = u2.alloc (.cells #[.string ⟨#[]⟩, .string ⟨#[]⟩, .string ⟨#[]⟩] 23) := ⟨_, rfl⟩
        rw [← hw]
        have bb : Below u2.heap.size u2 u3 := by rw [hw]; exact al _ _
        obtain ⟨g9, hg⟩ : ∃ v, v = u2.heap.size := ⟨_, rfl⟩
        rw [← hg]
        have a9 : u3.heap[g9]? = some (.cells #[.string ⟨#[]⟩, .string ⟨#[]⟩, .string ⟨#[]⟩] 23 (0, 0)) := by rw [hw, hg]; exact heap_alloc_new u2 _
        have l9 : w3.heap.size ≤ g9 := by rw [hg]; exact hB.size
        have lt := (Array.getElem?_eq_some_iff.1 a8).1
        have hne : g8 ≠ g9 := by omega
        have a8 := (bb.block g8 lt).trans a8
        clear lt
        have hB := Below.step hB bb
        clear hw hg bb
        refine wpAny_ready (rs := [5]) (by decide +kernel) (by simp) ?_
        refine AllReady.cons rfl (fun KK hK => ?_) AllReady.nil
        have hh := HU.out g 4 (c - 4) p4 p5 p6 u3 (row_sub (o := 4) (HR.out _ hB) 3)
        go_simp
        (with_reducible refine hh.mono ?_)
        rintro e' u4 ⟨rfl, bb⟩
        refine hK _ _ ?_
        clear hK KK hh
        have a8 := (bb.block g8 (Array.getElem?_eq_some_iff.1 a8).1).trans a8
        have a9 := (bb.block g9 (Array.getElem?_eq_some_iff.1 a9).1).trans a9
        have hB := Below.step hB bb
        clear bb
        refine wpAny_ready (rs := [8]) (by decide +kernel) (by simp) ?_
        refine AllReady.cons rfl (fun KK hK => ?_) AllReady.nil
        have f0 : u4.frozen? ⟨g8, 0, none⟩ = false := by simp [World.frozen?, a8]
        have f1 : u4.frozen? ⟨g8, 1, none⟩ = false := by simp [World.frozen?, a8]
        have f2 : u4.frozen? ⟨g8, 2, none⟩ = false := by simp [World.frozen?, a8]
        obtain ⟨d0, d1, d2⟩ := three_at a8
        go_simp
        refine hK _ _ ?_
        clear hK KK f0 f1 f2 d0 d1 d2
        obtain ⟨u5, hw⟩ : ∃ v, v = (((u4.setCell ⟨g8, 0, none⟩ (.string p1)).setCell ⟨g8, 1, none⟩ (.string p2)).setCell ⟨g8, 2, none⟩ (.string p3)) := ⟨_, rfl⟩
        rw [← hw]
        have a8' : u5.heap[g8]? = some (.cells #[.string p1, .string p2, .string p3] 23 (0, 0)) := by rw [hw]; exact set3 a8 _ _ _
        have a9' : u5.heap[g9]? = some (.cells #[.string ⟨#[]⟩, .string ⟨#[]⟩, .string ⟨#[]⟩] 23 (0, 0)) := by rw [hw]; exact (Below.heap_setCell _ _ _ _ hne.symm).trans ((Below.heap_setCell _ _ _ _ hne.symm).trans ((Below.heap_setCell _ _ _ _ hne.symm).trans a9))
        have hB : Below w3.heap.size w3 u5 := by rw [hw]; exact below3 hB l8 _ _ _
        clear hw a8 a9
        have a8 := a8'
        have a9 := a9'
        clear a8' a9'
        refine wpAny_ready (rs := [9]) (by decide +kernel) (by simp) ?_
        refine AllReady.cons rfl (fun KK hK => ?_) AllReady.nil
        have f0 : u5.frozen? ⟨g9, 0, none⟩ = false := by simp [World.frozen?, a9]
        have f1 : u5.frozen? ⟨g9, 1, none⟩ = false := by simp [World.frozen?, a9]
        have f2 : u5.frozen? ⟨g9, 2, none⟩ = false := by simp [World.frozen?, a9]
        obtain ⟨d0, d1, d2⟩ := three_at a9
        go_simp
        refine hK _ _ ?_
        clear hK KK f0 f1 f2 d0 d1 d2
        obtain ⟨u6, hw⟩ : ∃ v, v = (((u5.setCell ⟨g9, 0, none⟩ (.string p4)).setCell ⟨g9, 1, none⟩ (.string p5)).setCell ⟨g9, 2, none⟩ (.string p6)) := ⟨_, rfl⟩
        rw [← hw]
        have a9' : u6.heap[g9]? = some (.cells #[.string p4, .string p5, .string p6] 23 (0, 0)) := by rw [hw]; exact set3 a9 _ _ _
        have a8' : u6.heap[g8]? = some (.cells #[.string p1, .string p2, .string p3] 23 (0, 0)) := by rw [hw]; exact (Below.heap_setCell _ _ _ _ hne).trans ((Below.heap_setCell _ _ _ _ hne).trans ((Below.heap_setCell _ _ _ _ hne).trans a8))
        have hB : Below w3.heap.size w3 u6 := by rw [hw]; exact below3 hB l9 _ _ _
        clear hw a8 a9
        have a8 := a8'
        have a9 := a9'
        clear a8' a9'
        refine wpAny_done (by kernel_rfl) ?_ _
        go_wp2_with fail
        go_meet
        exact ⟨g8, g9, rfl, rfl, a8, a9, hB⟩
      refine AllReady.cons rfl (fun KK hK => ?_) AllReady.nil
      go_simp
      refine hK _ _ ?_
      clear hK KK
      obtain ⟨u2, hw⟩ : ∃ v, v = u1.alloc (.cells #[.string ⟨#[]⟩, .string ⟨#[]⟩, .string ⟨#[]⟩] 23) := ⟨_, rfl⟩
      rw [← hw]
      have bb : Below u1.heap.size u1 u2 := by rw [hw]; exact al _ _
      obtain ⟨g9, hg⟩ : ∃ v, v = u1.heap.size := ⟨_, rfl⟩
      rw [← hg]
      have a9 : u2.heap[g9]? = some (.cells #[.string ⟨#[]⟩, .string ⟨#[]⟩, .string ⟨#[]⟩] 23 (0, 0)) := by rw [hw, hg]; exact heap_alloc_new u1 _
      have l9 : w3.heap.size ≤ g9 := by rw [hg]; exact hB.size
      have lt := (Array.getElem?_eq_some_iff.1 a8).1
      have hne : g8 ≠ g9 := by omega
      have a8 := (bb.block g8 lt).trans a8
      clear lt
      have hB := Below.step hB bb
      clear hw hg bb
      refine wpAny_ready (rs := [2]) (by decide +kernel) (by simp) ?_
      refine AllReady.cons rfl (fun KK hK => ?_) AllReady.nil
      have hh := HU.out g 1 (c - 1) p1 p2 p3 u2 (row_sub (o := 1) (HR.out _ hB) 3)
      go_simp
      (with_reducible refine hh.mono ?_)
      rintro e' u3 ⟨rfl, bb⟩
      refine hK _ _ ?_
      clear hK KK hh
      have a8 := (bb.block g8 (Array.getElem?_eq_some_iff.1 a8).1).trans a8
      have a9 := (bb.block g9 (Array.getElem?_eq_some_iff.1 a9).1).trans a9
      have hB := Below.step hB bb
      clear bb
      refine wpAny_ready (rs := [5]) (by decide +kernel) (by simp) ?_
      refine AllReady.cons rfl (fun KK hK => ?_) AllReady.nil
      have hh := HU.out g 4 (c - 4) p4 p5 p6 u3 (row_sub (o := 4) (HR.out _ hB) 3)
      go_simp
      (with_reducible refine hh.mono ?_)
      rintro e' u4 ⟨rfl, bb⟩
      refine hK _ _ ?_
      clear hK KK hh
      have a8 := (bb.block g8 (Array.getElem?_eq_some_iff.1 a8).1).trans a8
      have a9 := (bb.block g9 (Array.getElem?_eq_some_iff.1 a9).1).trans a9
      have hB := Below.step hB bb
      clear bb
      refine wpAny_ready (rs := [8]) (by decide +kernel) (by simp) ?_
      refine AllReady.cons rfl (fun KK hK => ?_) AllReady.nil
      have f0 : u4.frozen? ⟨g8, 0, none⟩ = false := by simp [World.frozen?, a8]
      have f1 : u4.frozen? ⟨g8, 1, none⟩ = false := by simp [World.frozen?, a8]
      have f2 : u4.frozen? ⟨g8, 2, none⟩ = false := by simp [World.frozen?, a8]
      obtain ⟨d0, d1, d2⟩ := three_at a8
      go_simp
      refine hK _ _ ?_
      clear hK KK f0 f1 f2 d0 d1 d2
      obtain ⟨u5, hw⟩ : ∃ v, v = (((u4.setCell ⟨g8, 0, none⟩ (.string p1)).setCell ⟨g8, 1, none⟩ (.string p2)).setCell ⟨g8, 2, none⟩ (.string p3)) := ⟨_, rfl⟩
      rw [← hw]
      have a8' : u5.heap[g8]? = some (.cells #[.string p1, .string p2, .string p3] 23 (0, 0)) := by rw [hw]; exact set3 a8 _ _ _
      have a9' : u5.heap[g9]? = some (.cells #[.string ⟨#[]⟩, .string ⟨#[]⟩, .string ⟨#[]⟩] 23 (0, 0)) := by rw [hw]; exact (Below.heap_setCell _ _ _ _ hne.symm).trans ((Below.heap_setCell _ _ _ _ hne.symm).trans ((Below.heap_setCell _ _ _ _ hne.symm).trans a9))
      have hB : Below w3.heap.size w3 u5 := by rw [hw]; exact below3 hB l8 _ _ _
      clear hw a8 a9
      have a8 := a8'
      have a9 := a9'
      clear a8' a9'
      refine wpAny_ready (rs := [9]) (by decide +kernel) (by simp) ?_
      refine AllReady.cons rfl (fun KK hK => ?_) AllReady.nil
      have f0 : u5.frozen? ⟨g9, 0, none⟩ = false := by simp [World.frozen?, a9]
      have f1 : u5.frozen? ⟨g9, 1, none⟩ = false := by simp [World.frozen?, a9]
      have f2 : u5.frozen? ⟨g9, 2, none⟩ = false := by simp [World.frozen?, a9]
      obtain ⟨d0, d1, d2⟩ := three_at a9
      go_simp
      refine hK _ _ ?_
      clear hK KK f0 f1 f2 d0 d1 d2
      obtain ⟨u6, hw⟩ : ∃ v, v = (((u5.setCell ⟨g9, 0, none⟩ (.string p4)).setCell ⟨g9, 1, none⟩ (.string p5)).setCell ⟨g9, 2, none⟩ (.string p6)) := ⟨_, rfl⟩
      rw [← hw]
      have a9' : u6.heap[g9]? = some (.cells #[.string p4, .string p5, .string p6] 23 (0, 0)) := by rw [hw]; exact set3 a9 _ _ _
      have a8' : u6.heap[g8]? = some (.cells #[.string p1, .string p2, .string p3] 23 (0, 0)) := by rw [hw]; exact (Below.heap_setCell _ _ _ _ hne).trans ((Below.heap_setCell _ _ _ _ hne).trans ((Below.heap_setCell _ _ _ _ hne).trans a8))
      have hB : Below w3.heap.size w3 u6 := by rw [hw]; exact below3 hB l9 _ _ _
      clear hw a8 a9
      have a8 := a8'
      have a9 := a9'
      clear a8' a9'
      refine wpAny_done (by kernel_rfl) ?_ _
      go_wp2_with fail
      go_meet
      exact ⟨g8, g9, rfl, rfl, a8, a9, hB⟩
    refine AllReady.cons rfl (fun KK hK => ?_) AllReady.nil
    go_simp
    refine hK _ _ ?_
    clear hK KK
    obtain ⟨u1, hw⟩ : ∃ v, v = u0.alloc (.cells #[.string ⟨#[]⟩, .string ⟨#[]⟩, .string ⟨#[]⟩] 23) := ⟨_, rfl⟩
    rw [← hw]
    have bb : Below u0.heap.size u0 u1 := by rw [hw]; exact al _ _
    obtain ⟨g9, hg⟩ : ∃ v, v = u0.heap.size := ⟨_, rfl⟩
    rw [← hg]
    have a9 : u1.heap[g9]? = some (.cells #[.string ⟨#[]⟩, .string ⟨#[]⟩, .string ⟨#[]⟩] 23 (0, 0)) := by rw [hw, hg]; exact heap_alloc_new u0 _
    have l9 : w3.heap.size ≤ g9 := by rw [hg]; exact hB.size
    have hB := Below.step hB bb
    clear hw hg bb
    refine wpAny_ready (rs := [2, 6]) (by decide +kernel) (by simp) ?_
    refine AllReady.cons rfl (fun KK hK => ?_) ?_
    · have hh := HU.out g 1 (c - 1) p1 p2 p3 u1 (row_sub (o := 1) (HR.out _ hB) 3)
      go_simp
      (with_reducible refine hh.mono ?_)
      rintro e' u2 ⟨rfl, bb⟩
      refine hK _ _ ?_
      clear hK KK hh
      have a9 := (bb.block g9 (Array.getElem?_eq_some_iff.1 a9).1).trans a9
      have hB := Below.step hB bb
      clear bb
      refine wpAny_ready (rs := [5, 6]) (by decide +kernel) (by simp) ?_
      refine AllReady.cons rfl (fun KK hK => ?_) ?_
      · have hh := HU.out g 4 (c - 4) p4 p5 p6 u2 (row_sub (o := 4) (HR.out _ hB) 3)
        go_simp
        (with_reducible refine hh.mono ?_)
        rintro e' u3 ⟨rfl, bb⟩
        refine hK _ _ ?_
        clear hK KK hh
        have a9 := (bb.block g9 (Array.getElem?_eq_some_iff.1 a9).1).trans a9
        have hB := Below.step hB bb
        clear bb
        refine wpAny_ready (rs := [6]) (by decide +kernel) (by simp) ?_
        refine AllReady.cons rfl (fun KK hK => ?_) AllReady.nil
        go_simp
        refine hK _ _ ?_
        clear hK KK
        obtain ⟨u4, hw⟩ : ∃ v, v = u3.alloc (.cells #[.string ⟨#[]⟩, .string ⟨#[]⟩, .string ⟨#[]⟩] 23) := ⟨_, rfl⟩
        rw [← hw]
        have bb : Below u3.heap.size u3 u4 := by rw [hw]; exact al _ _
        obtain ⟨g8, hg⟩ : ∃ v, v = u3.heap.size := ⟨_, rfl⟩
        rw [← hg]
        have a8 : u4.heap[g8]? = some (.cells #[.string ⟨#[]⟩, .string ⟨#[]⟩, .string ⟨#[]⟩] 23 (0, 0)) := by rw [hw, hg]; exact heap_alloc_new u3 _
        have l8 : w3.heap.size ≤ g8 := by rw [hg]; exact hB.size
        have lt := (Array.getElem?_eq_some_iff.1 a9).1
        have hne : g8 ≠ g9 := by omega
        have a9 := (bb.block g9 lt).trans a9
        clear lt
        have hB := Below.step hB bb
        clear hw hg bb
        refine wpAny_ready (rs := [8]) (by decide +kernel) (by simp) ?_
        refine AllReady.cons rfl (fun KK hK => ?_) AllReady.nil
        have f0 : u4.frozen? ⟨g8, 0, none⟩ = false := by simp [World.frozen?, a8]
        have f1 : u4.frozen? ⟨g8, 1, none⟩ = false := by simp [World.frozen?, a8]
        have f2 : u4.frozen? ⟨g8, 2, none⟩ = false := by simp [World.frozen?, a8]
        obtain ⟨d0, d1, d2⟩ := three_at a8
        go_simp
        refine hK _ _ ?_
        clear hK KK f0 f1 f2 d0 d1 d2
        obtain ⟨u5, hw⟩ : ∃ v, v = (((u4.setCell ⟨g8, 0, none⟩ (.string p1)).setCell ⟨g8, 1, none⟩ (.string p2)).setCell ⟨g8, 2, none⟩ (.string p3)) := ⟨_, rfl⟩
        rw [← hw]
        have a8' : u5.heap[g8]? = some (.cells #[.string p1, .string p2, .string p3] 23 (0, 0)) := by rw [hw]; exact set3 a8 _ _ _
        have a9' : u5.heap[g9]? = some (.cells #[.string ⟨#[]⟩, .string ⟨#[]⟩, .string ⟨#[]⟩] 23 (0, 0)) := by rw [hw]; exact (Below.heap_setCell _ _ _ _ hne.symm).trans ((Below.heap_setCell _ _ _ _ hne.symm).trans ((Below.heap_setCell _ _ _ _ hne.symm).trans a9))
        have hB : Below w3.heap.size w3 u5 := by rw [hw]; exact below3 hB l8 _ _ _
        clear hw a8 a9
        have a8 := a8'
        have a9 := a9'
        clear a8' a9'
        refine wpAny_ready (rs := [9]) (by decide +kernel) (by simp) ?_
        refine AllReady.cons rfl (fun KK hK => ?_) AllReady.nil
        have f0 : u5.frozen? ⟨g9, 0, none⟩ = false := by simp [World.frozen?, a9]
        have f1 : u5.frozen? ⟨g9, 1, none⟩ = false := by simp [World.frozen?, a9]
        have f2 : u5.frozen? ⟨g9, 2, none⟩ = false := by simp [World.frozen?, a9]
        obtain ⟨d0, d1, d2⟩ := three_at a9
        go_simp
        refine hK _ _ ?_
        clear hK KK f0 f1 f2 d0 d1 d2
        obtain ⟨u6, hw⟩ : ∃ v, v = (((u5.setCell ⟨g9, 0, none⟩ (.string p4)).setCell ⟨g9, 1, none⟩ (.string p5)).setCell ⟨g9, 2, none⟩ (.string p6)) := ⟨_, rfl⟩
        rw [← hw]
        have a9' : u6.heap[g9]? = some (.cells #[.string p4, .string p5, .string p6] 23 (0, 0)) := by rw [hw]; exact set3 a9 _ _ _
        have a8' : u6.heap[g8]? = some (.cells #[.string p1, .string p2, .string p3] 23 (0, 0)) := by rw [hw]; exact (Below.heap_setCell _ _ _ _ hne).trans ((Below.heap_setCell _ _ _ _ hne).trans ((Below.heap_setCell _ _ _ _ hne).trans a8))
        have hB : Below w3.heap.size w3 u6 := by rw [hw]; exact below3 hB l9 _ _ _
        clear hw a8 a9
        have a8 := a8'
        have a9 := a9'
        clear a8' a9'
        refine wpAny_done (by kernel_rfl) ?_ _
        go_wp2_with fail
        go_meet
        exact ⟨g8, g9, rfl, rfl, a8, a9, hB⟩
      refine AllReady.cons rfl (fun KK hK => ?_) AllReady.nil
      go_simp
      refine hK _ _ ?_
      clear hK KK
      obtain ⟨u3, hw⟩ : ∃ v, v = u2.alloc (.cells #[.string ⟨#[]⟩, .string ⟨#[]⟩, .string ⟨#[]⟩] 23) := ⟨_, rfl⟩
      rw [← hw]
      have bb : Below u2.heap.size u2 u3 := by rw [hw]; exact al _ _
      obtain ⟨g8, hg⟩ : ∃ v, v = u2.heap.size := ⟨_, rfl⟩
      rw [← hg]
      have a8 : u3.heap[g8]? = some (.cells #[.string ⟨#[]⟩, .string ⟨#[]⟩, .string ⟨#[]⟩] 23 (0, 0)) := by rw [hw, hg]; exact heap_alloc_new u2 _
      have l8 : w3.heap.size ≤ g8 := by rw [hg]; exact hB.size
      have lt := (Array.getElem?_eq_some_iff.1 a9).1
      have hne : g8 ≠ g9 := by omega
      have a9 := (bb.block g9 lt).trans a9
      clear lt
      have hB := Below.step hB bb
      clear hw hg bb
      refine wpAny_ready (rs := [5]) (by decide +kernel) (by simp) ?_
      refine AllReady.cons rfl (fun KK hK => ?_) AllReady.nil
      have hh := HU.out g 4 (c - 4) p4 p5 p6 u3 (row_sub (o := 4) (HR.out _ hB) 3)
      go_simp
      (with_reducible refine hh.mono ?_)
      rintro e' u4 ⟨rfl, bb⟩
      refine hK _ _ ?_
      clear hK KK hh
      have a8 := (bb.block g8 (Array.getElem?_eq_some_iff.1 a8).1).trans a8
      have a9 := (bb.block g9 (Array.getElem?_eq_some_iff.1 a9).1).trans a9
      have hB := Below.step hB bb
      clear bb
      refine wpAny_ready (rs := [8]) (by decide +kernel) (by simp) ?_
      refine AllReady.cons rfl (fun KK hK => ?_) AllReady.nil
      have f0 : u4.frozen? ⟨g8, 0, none⟩ = false := by simp [World.frozen?, a8]
      have f1 : u4.frozen? ⟨g8, 1, none⟩ = false := by simp [World.frozen?, a8]
      have f2 : u4.frozen? ⟨g8, 2, none⟩ = false := by simp [World.frozen?, a8]
      obtain ⟨d0, d1, d2⟩ := three_at a8
      go_simp
      refine hK _ _ ?_
      clear hK KK f0 f1 f2 d0 d1 d2
      obtain ⟨u5, hw⟩ : ∃ v, v = (((u4.setCell ⟨g8, 0, none⟩ (.string p1)).setCell ⟨g8, 1, none⟩ (.string p2)).setCell ⟨g8, 2, none⟩ (.string p3)) := ⟨_, rfl⟩
      rw [← hw]
      have a8' : u5.heap[g8]? = some (.cells #[.string p1, .string p2, .string p3] 23 (0, 0)) := by rw [hw]; exact set3 a8 _ _ _
      have a9' : u5.heap[g9]? = some (.cells #[.string ⟨#[]⟩, .string ⟨#[]⟩, .string ⟨#[]⟩] 23 (0, 0)) := by rw [hw]; exact (Below.heap_setCell _ _ _ _ hne.symm).trans ((Below.heap_setCell _ _ _ _ hne.symm).trans ((Below.heap_setCell _ _ _ _ hne.symm).trans a9))
      have hB : Below w3.heap.size w3 u5 := by rw [hw]; exact below3 hB l8 _ _ _
      clear hw a8 a9
      have a8 := a8'
      have a9 := a9'
      clear a8' a9'
      refine wpAny_ready (rs := [9]) (by decide +kernel) (by simp) ?_
      refine AllReady.cons rfl (fun KK hK => ?_) AllReady.nil
      have f0 : u5.frozen? ⟨g9, 0, none⟩ = false := by simp [World.frozen?, a9]
      have f1 : u5.frozen? ⟨g9, 1, none⟩ = false := by simp [World.frozen?, a9]
      have f2 : u5.frozen? ⟨g9, 2, none⟩ = false := by simp [World.frozen?, a9]
      obtain ⟨d0, d1, d2⟩ := three_at a9
      go_simp
      refine hK _ _ ?_
      clear hK KK f0 f1 f2 d0 d1 d2
      obtain ⟨u6, hw⟩ : ∃ v, v = (((u5.setCell ⟨g9, 0, none⟩ (.string p4)).setCell ⟨g9, 1, none⟩ (.string p5)).setCell ⟨g9, 2, none⟩ (.string p6)) := ⟨_, rfl⟩
      rw [← hw]
      have a9' : u6.heap[g9]? = some (.cells #[.string p4, .string p5, .string p6] 23 (0, 0)) := by rw [hw]; exact set3 a9 _ _ _
      have a8' : u6.heap[g8]? = some (.cells #[.string p1, .string p2, .string p3] 23 (0, 0)) := by rw [hw]; exact (Below.heap_setCell _ _ _ _ hne).trans ((Below.heap_setCell _ _ _ _ hne).trans ((Below.heap_setCell _ _ _ _ hne).trans a8))
      have hB : Below w3.heap.size w3 u6 := by rw [hw]; exact below3 hB l9 _ _ _
      clear hw a8 a9
      have a8 := a8'
      have a9 := a9'
      clear a8' a9'
      refine wpAny_done (by kernel_rfl) ?_ _
      go_wp2_with fail
      go_meet
      exact ⟨g8, g9, rfl, rfl, a8, a9, hB⟩
    refine AllReady.cons rfl (fun KK hK => ?_) AllReady.nil
    go_simp
    refine hK _ _ ?_
    clear hK KK
    obtain ⟨u2, hw⟩ : ∃ v, v = u1.alloc (.cells #[.string ⟨#[]⟩, .string ⟨#[]⟩, .string ⟨#[]⟩] 23) := ⟨_, rfl⟩
    rw [← hw]
    have bb : Below u1.heap.size u1 u2 := by rw [hw]; exact al _ _
    obtain ⟨g8, hg⟩ : ∃ v, v = u1.heap.size := ⟨_, rfl⟩
    rw [← hg]
    have a8 : u2.heap[g8]? = some (.cells #[.string ⟨#[]⟩, .string ⟨#[]⟩, .string ⟨#[]⟩] 23 (0, 0)) := by rw [hw, hg]; exact heap_alloc_new u1 _
    have l8 : w3.heap.size ≤ g8 := by rw [hg]; exact hB.size
    have lt := (Array.getElem?_eq_some_iff.1 a9).1
    have hne : g8 ≠ g9 := by omega
    have a9 := (bb.block g9 lt).trans a9
    clear lt
    have hB := Below.step hB bb
    clear hw hg bb
    refine wpAny_ready (rs := [2]) (by decide +kernel) (by simp) ?_
    refine AllReady.cons rfl (fun KK hK => ?_) AllReady.nil
    have hh := HU.out g 1 (c - 1) p1 p2 p3 u2 (row_sub (o := 1) (HR.out _ hB) 3)
    go_simp
    (with_reducible refine hh.mono ?_)
    rintro e' u3 ⟨rfl, bb⟩
    refine hK _ _ ?_
    clear hK KK hh
    have a8 := (bb.block g8 (Array.getElem?_eq_some_iff.1 a8).1).trans a8
    have a9 := (bb.block g9 (Array.getElem?_eq_some_iff.1 a9).1).trans a9
    have hB := Below.step hB bb
    clear bb
    refine wpAny_ready (rs := [5]) (by decide +kernel) (by simp) ?_
    refine AllReady.cons rfl (fun KK hK => ?_) AllReady.nil
    have hh := HU.out g 4 (c - 4) p4 p5 p6 u3 (row_sub (o := 4) (HR.out _ hB) 3)
    go_simp
    (with_reducible refine hh.mono ?_)
    rintro e' u4 ⟨rfl, bb⟩
    refine hK _ _ ?_
    clear hK KK hh
    have a8 := (bb.block g8 (Array.getElem?_eq_some_iff.1 a8).1).trans a8
    have a9 := (bb.block g9 (Array.getElem?_eq_some_iff.1 a9).1).trans a9
    have hB := Below.step hB bb
    clear bb
    refine wpAny_ready (rs := [8]) (by decide +kernel) (by simp) ?_
    refine AllReady.cons rfl (fun KK hK => ?_) AllReady.nil
    have f0 : u4.frozen? ⟨g8, 0, none⟩ = false := by simp [World.frozen?, a8]
    have f1 : u4.frozen? ⟨g8, 1, none⟩ = false := by simp [World.frozen?, a8]
    have f2 : u4.frozen? ⟨g8, 2, none⟩ = false := by simp [World.frozen?, a8]
    obtain ⟨d0, d1, d2⟩ := three_at a8
    go_simp
    refine hK _ _ ?_
    clear hK KK f0 f1 f2 d0 d1 d2
    obtain ⟨u5, hw⟩ : ∃ v, v = (((u4.setCell ⟨g8, 0, none⟩ (.string p1)).setCell ⟨g8, 1, none⟩ (.string p2)).setCell ⟨g8, 2, none⟩ (.string p3)) := ⟨_, rfl⟩
    rw [← hw]
    have a8' : u5.heap[g8]? = some (.cells #[.string p1, .string p2, .string p3] 23 (0, 0)) := by rw [hw]; exact set3 a8 _ _ _
    have a9' : u5.heap[g9]? = some (.cells #[.string ⟨#[]⟩, .string ⟨#[]⟩, .string ⟨#[]⟩] 23 (0, 0)) := by rw [hw]; exact (Below.heap_setCell _ _ _ _ hne.symm).trans ((Below.heap_setCell _ _ _ _ hne.symm).trans ((Below.heap_setCell _ _ _ _ hne.symm).trans a9))
    have hB : Below w3.heap.size w3 u5 := by rw [hw]; exact below3 hB l8 _ _ _
    clear hw a8 a9
    have a8 := a8'
    have a9 := a9'
    clear a8' a9'
    refine wpAny_ready (rs := [9]) (by decide +kernel) (by simp) ?_
    refine AllReady.cons rfl (fun KK hK => ?_) AllReady.nil
    have f0 : u5.frozen? ⟨g9, 0, none⟩ = false := by simp [World.frozen?, a9]
    have f1 : u5.frozen? ⟨g9, 1, none⟩ = false := by simp [World.frozen?, a9]
    have f2 : u5.frozen? ⟨g9, 2, none⟩ = false := by simp [World.frozen?, a9]
    obtain ⟨d0, d1, d2⟩ := three_at a9
    go_simp
    refine hK _ _ ?_
    clear hK KK f0 f1 f2 d0 d1 d2
    obtain ⟨u6, hw⟩ : ∃ v, v = (((u5.setCell ⟨g9, 0, none⟩ (.string p4)).setCell ⟨g9, 1, none⟩ (.string p5)).setCell ⟨g9, 2, none⟩ (.string p6)) := ⟨_, rfl⟩
    rw [← hw]
    have a9' : u6.heap[g9]? = some (.cells #[.string p4, .string p5, .string p6] 23 (0, 0)) := by rw [hw]; exact set3 a9 _ _ _
    have a8' : u6.heap[g8]? = some (.cells #[.string p1, .string p2, .string p3] 23 (0, 0)) := by rw [hw]; exact (Below.heap_setCell _ _ _ _ hne).trans ((Below.heap_setCell _ _ _ _ hne).trans ((Below.heap_setCell _ _ _ _ hne).trans a8))
    have hB : Below w3.heap.size w3 u6 := by rw [hw]; exact below3 hB l9 _ _ _
    clear hw a8 a9
    have a8 := a8'
    have a9 := a9'
    clear a8' a9'
    refine wpAny_done (by kernel_rfl) ?_ _
    go_wp2_with fail
    go_meet
    exact ⟨g8, g9, rfl, rfl, a8, a9, hB⟩
  case rest =>
    obtain ⟨g8, g9, rfl, rfl, a8, a9, hB⟩ := hcut
    clear hs14 hs47 HU
    have HBC := Lib.hid hB
    obtain ⟨x0, x1, x2⟩ := three_at a8
    obtain ⟨y0, y1, y2⟩ := three_at a9
    have r0 := row_cell (HR.out _ hB) (o := 0) rfl (v := .string p0) rfl
    clear a8 a9 hB
    have q0 := tl_f p0
    have q1 := tl_r p0
    by_cases h0 : p0 = sf
    · rw [decide_eq_true h0] at q0
      rw [decide_eq_false (show ¬ p0 = sr from by rw [h0]; decide)] at q1
      have HP0 := Lib.hid h0
      clear h0
      have hh := HO.out ⟨p1, p2, p3⟩ ⟨p4, p5, p6⟩ wc
      simp only at hh
      go_wp2_with fail
      (with_reducible refine hh.mono ?_)
      clear hh x0 x1 x2 y0 y1 y2 r0
      rintro e w4 ⟨rfl, bb⟩
      have HD4 := Lib.hid (Below.step HBC.out bb)
      clear bb
      have aT := HTA.out w4 HD4.out
      have f0 : w4.frozen? ⟨T, 0, none⟩ = false := by simp [World.frozen?, aT]
      have f1 : w4.frozen? ⟨T, 1, none⟩ = false := by simp [World.frozen?, aT]
      have f2 : w4.frozen? ⟨T, 2, none⟩ = false := by simp [World.frozen?, aT]
      have f3 : w4.frozen? ⟨T, 3, none⟩ = false := by simp [World.frozen?, aT]
      have f4 : w4.frozen? ⟨T, 4, none⟩ = false := by simp [World.frozen?, aT]
      have f5 : w4.frozen? ⟨T, 5, none⟩ = false := by simp [World.frozen?, aT]
      obtain ⟨d0, d1, d2, d3, d4, d5⟩ := six_at aT
      obtain ⟨w5, hw5⟩ : ∃ v, v = ((((((w4.setCell ⟨T, 0, none⟩ (.string p1)).setCell ⟨T, 1, none⟩ (.string p2)).setCell ⟨T, 2, none⟩ (.string p3)).setCell ⟨T, 3, none⟩ (.string p4)).setCell ⟨T, 4, none⟩ (.string p5)).setCell ⟨T, 5, none⟩ (.string p6)) := ⟨_, rfl⟩
      have a5 : w5.heap[T]? = some (.cells #[.string p1, .string p2, .string p3, .string p4, .string p5, .string p6] 25 (0, 0)) := by rw [hw5]; exact set6 aT _ _ _ _ _ _
      have b5 : Below w1.heap.size w1 w5 := by rw [hw5]; exact below6 (HD3.out.trans (HD4.out.mono HD3.out.size)) HTL.out _ _ _ _ _ _
      have r5 : w5.cell? ⟨g, 0, none⟩ = some (.string p0) := by rw [hw5]; exact keep6 HTG.out (row_cell (HR.out _ HD4.out) (o := 0) rfl rfl)
      have HW := Lib.hid hw5
      have HB5 := Lib.hid b5
      have HA5 := Lib.hid a5
      have HR5 := Lib.hid r5
      clear hw5 b5 a5 r5
      go_upto_region 11 with fail
      try rw [← HW.out]
      clear HW aT f0 f1 f2 f3 f4 f5 d0 d1 d2 d3 d4 d5
      obtain ⟨t, ht⟩ : ∃ t : Tp, t = (⟨p1, p2, p3, ⟨p4, p5, p6⟩⟩ : Tp) := ⟨_, rfl⟩
      have hh := H2.out t (by rw [ht]; exact ⟨HZU.out.1.1, HZU.out.1.2.1, HZU.out.1.2.2, HZU.out.2⟩) w5
      have e0 : p1 = t.k := by rw [ht]
      have e1 : p2 = t.i := by rw [ht]
      have e2 : p3 = t.r := by rw [ht]
      have e3 : p4 = t.u.k := by rw [ht]
      have e4 : p5 = t.u.i := by rw [ht]
      have e5 : p6 = t.u.r := by rw [ht]
      have HKT := Lib.hid (show kput (lst [p0, p1, p2, p3, p4, p5, p6]) = t.key from by rw [HP0.out, ht]; rfl)
      have HPN := Lib.hid (show (t.ok = true → False) → RdK (bl s) none from fun hn => rdk_none HK.out fun v hv => ⟨fun e => hn (by rw [ht]; injection e with e1 e2; simp only [Tp.parts, List.cons.injEq, and_true] at e2; obtain ⟨q1, q2, q3, q4, q5, q6⟩ := e2; subst q1 q2 q3 q4 q5 q6; exact hv), fun e => by injection e with e1 _; exact absurd (HP0.out.symm.trans e1) (by decide)⟩)
      have HE := Lib.hid (And.intro e0 (And.intro e1 (And.intro e2 (And.intro e3 (And.intro e4 e5)))))
      have HA6 := Lib.hid (show w5.heap[T]? = some (.cells #[.string t.k, .string t.i, .string t.r, .string t.u.k, .string t.u.i, .string t.u.r] 25 (0, 0)) from by rw [← e0, ← e1, ← e2, ← e3, ← e4, ← e5]; exact HA5.out)
      clear e0 e1 e2 e3 e4 e5 ht HA5
      obtain ⟨d0, d1, d2, d3, d4, d5⟩ := six_at HA6.out
      obtain ⟨ok, hok⟩ : ∃ v, t.ok = v := ⟨_, rfl⟩
      rw [hok] at hh
      have HOK := Lib.hid hok
      clear hok
      go_wp2_with fail
      (with_reducible refine hh.mono ?_)
      clear hh d0 d1 d2 d3 d4 d5
      rintro e w6 ⟨rfl, bb⟩
      have HD6 := Lib.hid (HB5.out.trans (bb.mono HB5.out.size))
      have HA7 := Lib.hid ((bb.block T (Array.getElem?_eq_some_iff.1 HA6.out).1).trans HA6.out)
      have HR7 := Lib.hid ((bb.cell (Nat.lt_trans HGT.out (Array.getElem?_eq_some_iff.1 HA6.out).1)).trans HR5.out)
      clear bb
      cases ok with
      | false =>
        have HR := Lib.hid (HPN.out fun h => absurd h (by rw [HOK.out]; decide))
        have ab := HA.out w6 HD6.out
        have f0 : w6.frozen? ⟨b, 0, none⟩ = false := by simp [World.frozen?, ab]
        have f1 : w6.frozen? ⟨b, 1, none⟩ = false := by simp [World.frozen?, ab]
        have f2 : w6.frozen? ⟨b, 2, none⟩ = false := by simp [World.frozen?, ab]
        have f3 : w6.frozen? ⟨b, 3, none⟩ = false := by simp [World.frozen?, ab]
        have f4 : w6.frozen? ⟨b, 4, none⟩ = false := by simp [World.frozen?, ab]
        have f5 : w6.frozen? ⟨b, 5, none⟩ = false := by simp [World.frozen?, ab]
        have HAB := Lib.hid ab
        obtain ⟨c0, c1, c2, c3, c4, c5⟩ := HC.out w6 HD6.out
        clear ab
        go_wp2_with fail
        refine bodyPost_ret (results_cell_tmp2_row rfl _ _ b 25 _ (0, 0) _ rfl (set6 HAB.out _ _ _ _ _ _) Try.underlying25 rfl (by kernel_rfl)) rfl ?_
        exact rk_no HR.out (below6 (HB1.out.trans (HD6.out.mono HB1.out.size)) HLE.out _ _ _ _ _ _)
      | true =>
        have HKE := Lib.hid (show t.key = bl s from by rw [← HKT.out]; exact HK.out.symm)
        go_upto_region 13 with fail
        refine wp_region_any (by kernel_rfl) ?_
        change wpAny _ _ _ _ _ _ _ (World.drew _)
        obtain ⟨u0, hu0⟩ : ∃ v, v = World.drew w6 := ⟨_, rfl⟩
        rw [← hu0]
        have hB0 : Below w1.heap.size w1 u0 := by rw [hu0]; exact HD6.out.drew
        have hT0 : u0.heap[T]? = some (.cells #[.string t.k, .string t.i, .string t.r, .string t.u.k, .string t.u.i, .string t.u.r] 25 (0, 0)) := by rw [hu0]; exact HA7.out
        have hR0 : u0.cell? ⟨g, 0, none⟩ = some (.string p0) := by rw [hu0]; exact HR7.out
        clear hu0
        refine Reg.take_at (i := 1) (d := 47) (v := ?_) rfl rfl (by kernel_rfl) (by kernel_rfl) (by kernel_rfl) (fun _ _ _ h => h) (Or.inl ⟨by rfl, ?_⟩) ?_
        rotate_left 1
        · intro w; go_simp <;> with_reducible rfl
        simp only [Act.put, List.setIfInBounds_toArray, List.set_cons_zero, List.set_cons_succ]
        refine Reg.take_at (i := 2) (d := 48) (v := ?_) rfl rfl (by kernel_rfl) (by kernel_rfl) (by kernel_rfl) (fun _ _ _ h => h) (Or.inl ⟨by rfl, ?_⟩) ?_
        rotate_left 1
        · intro w; go_simp <;> with_reducible rfl
        simp only [Act.put, List.setIfInBounds_toArray, List.set_cons_zero, List.set_cons_succ]
        refine wpAny_ready (rs := [0, 3]) (by decide +kernel) (by simp) ?_
        refine AllReady.cons rfl (fun KK hK => ?_) ?_
        · obtain ⟨d0, d1, d2, d3, d4, d5⟩ := six_at hT0
          go_simp
          refine hK _ _ ?_
          clear hK KK d0 d1 d2 d3 d4 d5
          refine wpAny_ready (rs := [3, 5]) (by decide +kernel) (by simp) ?_
          refine AllReady.cons rfl (fun KK hK => ?_) ?_
          · have rr := hR0
            go_simp
            refine hK _ _ ?_
            clear hK KK rr
            refine Reg.take_at (i := 4) (d := 50) (v := ?_) rfl rfl (by kernel_rfl) (by kernel_rfl) (by kernel_rfl) (fun _ _ _ h => h) (Or.inl ⟨by rfl, ?_⟩) ?_
            rotate_left 1
            · intro w; go_simp <;> with_reducible rfl
            simp only [Act.put, List.setIfInBounds_toArray, List.set_cons_zero, List.set_cons_succ]
            refine wpAny_ready (rs := [5]) (by decide +kernel) (by simp) ?_
            refine AllReady.cons rfl (fun KK hK => ?_) AllReady.nil
            have ab := HA.out u0 hB0
            have f0 : u0.frozen? ⟨b, 0, none⟩ = false := by simp [World.frozen?, ab]
            have f1 : u0.frozen? ⟨b, 1, none⟩ = false := by simp [World.frozen?, ab]
            have f2 : u0.frozen? ⟨b, 2, none⟩ = false := by simp [World.frozen?, ab]
            have f3 : u0.frozen? ⟨b, 3, none⟩ = false := by simp [World.frozen?, ab]
            have f4 : u0.frozen? ⟨b, 4, none⟩ = false := by simp [World.frozen?, ab]
            have f5 : u0.frozen? ⟨b, 5, none⟩ = false := by simp [World.frozen?, ab]
            have HAB := Lib.hid ab
            obtain ⟨c0, c1, c2, c3, c4, c5⟩ := HC.out u0 hB0
            clear ab
            go_simp
            refine hK _ _ ?_
            clear hK KK f0 f1 f2 f3 f4 f5 c0 c1 c2 c3 c4 c5
            obtain ⟨u1, hw⟩ : ∃ v, v = ((((((u0.setCell ⟨b, 0, none⟩ (.string t.k)).setCell ⟨b, 1, none⟩ (.string t.i)).setCell ⟨b, 2, none⟩ (.string t.r)).setCell ⟨b, 3, none⟩ (.string t.u.k)).setCell ⟨b, 4, none⟩ (.string t.u.i)).setCell ⟨b, 5, none⟩ (.string t.u.r)) := ⟨_, rfl⟩
            rw [← hw]
            have HWU := Lib.hid hw
            clear hw
            refine Reg.take_at (i := 6) (d := 3) (v := ?_) rfl rfl (by kernel_rfl) (by kernel_rfl) (by kernel_rfl) (fun _ _ _ h => h) (Or.inl ⟨by rfl, ?_⟩) ?_
            rotate_left 1
            · intro w; go_simp <;> with_reducible rfl
            simp only [Act.put, List.setIfInBounds_toArray, List.set_cons_zero, List.set_cons_succ]
            refine Reg.take_at (i := 7) (d := 4) (v := ?_) rfl rfl (by kernel_rfl) (by kernel_rfl) (by kernel_rfl) (fun _ _ _ h => h) (Or.inl ⟨by rfl, ?_⟩) ?_
            rotate_left 1
            · intro w; go_simp <;> with_reducible rfl
            simp only [Act.put, List.setIfInBounds_toArray, List.set_cons_zero, List.set_cons_succ]
            refine wpAny_done (by kernel_rfl) ?_ _
            go_wp2_with fail
            rw [HWU.out]
            refine bodyPost_ret (results_cell_tmp2_row rfl _ _ b 25 _ (0, 0) _ rfl (set6 HAB.out _ _ _ _ _ _) Try.underlying25 rfl (by kernel_rfl)) rfl ?_
            exact rk_yes HOK.out (b := false) HKE.out (below6 (HB1.out.trans (hB0.mono HB1.out.size)) HLE.out _ _ _ _ _ _)
          refine AllReady.cons rfl (fun KK hK => ?_) AllReady.nil
          have ab := HA.out u0 hB0
          have f0 : u0.frozen? ⟨b, 0, none⟩ = false := by simp [World.frozen?, ab]
          have f1 : u0.frozen? ⟨b, 1, none⟩ = false := by simp [World.frozen?, ab]
          have f2 : u0.frozen? ⟨b, 2, none⟩ = false := by simp [World.frozen?, ab]
          have f3 : u0.frozen? ⟨b, 3, none⟩ = false := by simp [World.frozen?, ab]
          have f4 : u0.frozen? ⟨b, 4, none⟩ = false := by simp [World.frozen?, ab]
          have f5 : u0.frozen? ⟨b, 5, none⟩ = false := by simp [World.frozen?, ab]
          have HAB := Lib.hid ab
          obtain ⟨c0, c1, c2, c3, c4, c5⟩ := HC.out u0 hB0
          clear ab
          go_simp
          refine hK _ _ ?_
          clear hK KK f0 f1 f2 f3 f4 f5 c0 c1 c2 c3 c4 c5
          obtain ⟨u1, hw⟩ : ∃ v, v = ((((((u0.setCell ⟨b, 0, none⟩ (.string t.k)).setCell ⟨b, 1, none⟩ (.string t.i)).setCell ⟨b, 2, none⟩ (.string t.r)).setCell ⟨b, 3, none⟩ (.string t.u.k)).setCell ⟨b, 4, none⟩ (.string t.u.i)).setCell ⟨b, 5, none⟩ (.string t.u.r)) := ⟨_, rfl⟩
          rw [← hw]
          have HWU := Lib.hid hw
          clear hw
          refine wpAny_ready (rs := [3]) (by decide +kernel) (by simp) ?_
          refine AllReady.cons rfl (fun KK hK => ?_) AllReady.nil
          have rr : u1.cell? ⟨g, 0, none⟩ = some (.string p0) := by rw [HWU.out]; exact keep6 HTB.out hR0
          go_simp
          refine hK _ _ ?_
          clear hK KK rr
          refine Reg.take_at (i := 4) (d := 50) (v := ?_) rfl rfl (by kernel_rfl) (by kernel_rfl) (by kernel_rfl) (fun _ _ _ h => h) (Or.inl ⟨by rfl, ?_⟩) ?_
          rotate_left 1
          · intro w; go_simp <;> with_reducible rfl
          simp only [Act.put, List.setIfInBounds_toArray, List.set_cons_zero, List.set_cons_succ]
          refine Reg.take_at (i := 6) (d := 3) (v := ?_) rfl rfl (by kernel_rfl) (by kernel_rfl) (by kernel_rfl) (fun _ _ _ h => h) (Or.inl ⟨by rfl, ?_⟩) ?_
          rotate_left 1
          · intro w; go_simp <;> with_reducible rfl
          simp only [Act.put, List.setIfInBounds_toArray, List.set_cons_zero, List.set_cons_succ]
          refine Reg.take_at (i := 7) (d := 4) (v := ?_) rfl rfl (by kernel_rfl) (by kernel_rfl) (by kernel_rfl) (fun _ _ _ h => h) (Or.inl ⟨by rfl, ?_⟩) ?_
          rotate_left 1
          · intro w; go_simp <;> with_reducible rfl
          simp only [Act.put, List.setIfInBounds_toArray, List.set_cons_zero, List.set_cons_succ]
          refine wpAny_done (by kernel_rfl) ?_ _
          go_wp2_with fail
          rw [HWU.out]
          refine bodyPost_ret (results_cell_tmp2_row rfl _ _ b 25 _ (0, 0) _ rfl (set6 HAB.out _ _ _ _ _ _) Try.underlying25 rfl (by kernel_rfl)) rfl ?_
          exact rk_yes HOK.out (b := false) HKE.out (below6 (HB1.out.trans (hB0.mono HB1.out.size)) HLE.out _ _ _ _ _ _)
        refine AllReady.cons rfl (fun KK hK => ?_) AllReady.nil
        have rr := hR0
        go_simp
        refine hK _ _ ?_
        clear hK KK rr
        refine Reg.take_at (i := 4) (d := 50) (v := ?_) rfl rfl (by kernel_rfl) (by kernel_rfl) (by kernel_rfl) (fun _ _ _ h => h) (Or.inl ⟨by rfl, ?_⟩) ?_
        rotate_left 1
        · intro w; go_simp <;> with_reducible rfl
        simp only [Act.put, List.setIfInBounds_toArray, List.set_cons_zero, List.set_cons_succ]
        refine wpAny_ready (rs := [0]) (by decide +kernel) (by simp) ?_
        refine AllReady.cons rfl (fun KK hK => ?_) AllReady.nil
        obtain ⟨d0, d1, d2, d3, d4, d5⟩ := six_at hT0
        go_simp
        refine hK _ _ ?_
        clear hK KK d0 d1 d2 d3 d4 d5
        refine wpAny_ready (rs := [5]) (by decide +kernel) (by simp) ?_
        refine AllReady.cons rfl (fun KK hK => ?_) AllReady.nil
        have ab := HA.out u0 hB0
        have f0 : u0.frozen? ⟨b, 0, none⟩ = false := by simp [World.frozen?, ab]
        have f1 : u0.frozen? ⟨b, 1, none⟩ = false := by simp [World.frozen?, ab]
        have f2 : u0.frozen? ⟨b, 2, none⟩ = false := by simp [World.frozen?, ab]
        have f3 : u0.frozen? ⟨b, 3, none⟩ = false := by simp [World.frozen?, ab]
        have f4 : u0.frozen? ⟨b, 4, none⟩ = false := by simp [World.frozen?, ab]
        have f5 : u0.frozen? ⟨b, 5, none⟩ = false := by simp [World.frozen?, ab]
        have HAB := Lib.hid ab
        obtain ⟨c0, c1, c2, c3, c4, c5⟩ := HC.out u0 hB0
        clear ab
        go_simp
        refine hK _ _ ?_
        clear hK KK f0 f1 f2 f3 f4 f5 c0 c1 c2 c3 c4 c5
        obtain ⟨u1, hw⟩ : ∃ v, v = ((((((u0.setCell ⟨b, 0, none⟩ (.string t.k)).setCell ⟨b, 1, none⟩ (.string t.i)).setCell ⟨b, 2, none⟩ (.string t.r)).setCell ⟨b, 3, none⟩ (.string t.u.k)).setCell ⟨b, 4, none⟩ (.string t.u.i)).setCell ⟨b, 5, none⟩ (.string t.u.r)) := ⟨_, rfl⟩
        rw [← hw]
        have HWU := Lib.hid hw
        clear hw
        refine Reg.take_at (i := 6) (d := 3) (v := ?_) rfl rfl (by kernel_rfl) (by kernel_rfl) (by kernel_rfl) (fun _ _ _ h => h) (Or.inl ⟨by rfl, ?_⟩) ?_
        rotate_left 1
        · intro w; go_simp <;> with_reducible rfl
        simp only [Act.put, List.setIfInBounds_toArray, List.set_cons_zero, List.set_cons_succ]
        refine Reg.take_at (i := 7) (d := 4) (v := ?_) rfl rfl (by kernel_rfl) (by kernel_rfl) (by kernel_rfl) (fun _ _ _ h => h) (Or.inl ⟨by rfl, ?_⟩) ?_
        rotate_left 1
        · intro w; go_simp <;> with_reducible rfl
        simp only [Act.put, List.setIfInBounds_toArray, List.set_cons_zero, List.set_cons_succ]
        refine wpAny_done (by kernel_rfl) ?_ _
        go_wp2_with fail
        rw [HWU.out]
        refine bodyPost_ret (results_cell_tmp2_row rfl _ _ b 25 _ (0, 0) _ rfl (set6 HAB.out _ _ _ _ _ _) Try.underlying25 rfl (by kernel_rfl)) rfl ?_
        exact rk_yes HOK.out (b := false) HKE.out (below6 (HB1.out.trans (hB0.mono HB1.out.size)) HLE.out _ _ _ _ _ _)
    · rw [decide_eq_false h0] at q0
      by_cases h1 : p0 = sr
      · rw [decide_eq_true h1] at q1
        have HP0 := Lib.hid h1
        clear h0 h1
        have hh := HO.out ⟨p4, p5, p6⟩ ⟨p1, p2, p3⟩ wc
        simp only at hh
        go_wp2_with fail
        (with_reducible refine hh.mono ?_)
        clear hh x0 x1 x2 y0 y1 y2 r0
        rintro e w4 ⟨rfl, bb⟩
        have HD4 := Lib.hid (Below.step HBC.out bb)
        clear bb
        have aT := HTA.out w4 HD4.out
        have f0 : w4.frozen? ⟨T, 0, none⟩ = false := by simp [World.frozen?, aT]
        have f1 : w4.frozen? ⟨T, 1, none⟩ = false := by simp [World.frozen?, aT]
        have f2 : w4.frozen? ⟨T, 2, none⟩ = false := by simp [World.frozen?, aT]
        have f3 : w4.frozen? ⟨T, 3, none⟩ = false := by simp [World.frozen?, aT]
        have f4 : w4.frozen? ⟨T, 4, none⟩ = false := by simp [World.frozen?, aT]
        have f5 : w4.frozen? ⟨T, 5, none⟩ = false := by simp [World.frozen?, aT]
        obtain ⟨d0, d1, d2, d3, d4, d5⟩ := six_at aT
        obtain ⟨w5, hw5⟩ : ∃ v, v = ((((((w4.setCell ⟨T, 0, none⟩ (.string p4)).setCell ⟨T, 1, none⟩ (.string p5)).setCell ⟨T, 2, none⟩ (.string p6)).setCell ⟨T, 3, none⟩ (.string p1)).setCell ⟨T, 4, none⟩ (.string p2)).setCell ⟨T, 5, none⟩ (.string p3)) := ⟨_, rfl⟩
        have a5 : w5.heap[T]? = some (.cells #[.string p4, .string p5, .string p6, .string p1, .string p2, .string p3] 25 (0, 0)) := by rw [hw5]; exact set6 aT _ _ _ _ _ _
        have b5 : Below w1.heap.size w1 w5 := by rw [hw5]; exact below6 (HD3.out.trans (HD4.out.mono HD3.out.size)) HTL.out _ _ _ _ _ _
        have r5 : w5.cell? ⟨g, 0, none⟩ = some (.string p0) := by rw [hw5]; exact keep6 HTG.out (row_cell (HR.out _ HD4.out) (o := 0) rfl rfl)
        have HW := Lib.hid hw5
        have HB5 := Lib.hid b5
        have HA5 := Lib.hid a5
        have HR5 := Lib.hid r5
        clear hw5 b5 a5 r5
        go_upto_region 11 with fail
        try rw [← HW.out]
        clear HW aT f0 f1 f2 f3 f4 f5 d0 d1 d2 d3 d4 d5
        obtain ⟨t, ht⟩ : ∃ t : Tp, t = (⟨p4, p5, p6, ⟨p1, p2, p3⟩⟩ : Tp) := ⟨_, rfl⟩
        have hh := H2.out t (by rw [ht]; exact ⟨HZU.out.2.1, HZU.out.2.2.1, HZU.out.2.2.2, HZU.out.1⟩) w5
        have e0 : p4 = t.k := by rw [ht]
        have e1 : p5 = t.i := by rw [ht]
        have e2 : p6 = t.r := by rw [ht]
        have e3 : p1 = t.u.k := by rw [ht]
        have e4 : p2 = t.u.i := by rw [ht]
        have e5 : p3 = t.u.r := by rw [ht]
        have HKT := Lib.hid (show kput (lst [p0, p1, p2, p3, p4, p5, p6]) = t.back from by rw [HP0.out, ht]; rfl)
        have HPN := Lib.hid (show (t.ok = true → False) → RdK (bl s) none from fun hn => rdk_none HK.out fun v hv => ⟨fun e => by injection e with e1 _; exact absurd (HP0.out.symm.trans e1) (by decide), fun e => hn (by rw [ht]; injection e with e1 e2; simp only [Tp.backs, List.cons.injEq, and_true] at e2; obtain ⟨q1, q2, q3, q4, q5, q6⟩ := e2; subst q1 q2 q3 q4 q5 q6; exact hv)⟩)
        have HE := Lib.hid (And.intro e0 (And.intro e1 (And.intro e2 (And.intro e3 (And.intro e4 e5)))))
        have HA6 := Lib.hid (show w5.heap[T]? = some (.cells #[.string t.k, .string t.i, .string t.r, .string t.u.k, .string t.u.i, .string t.u.r] 25 (0, 0)) from by rw [← e0, ← e1, ← e2, ← e3, ← e4, ← e5]; exact HA5.out)
        clear e0 e1 e2 e3 e4 e5 ht HA5
        obtain ⟨d0, d1, d2, d3, d4, d5⟩ := six_at HA6.out
        obtain ⟨ok, hok⟩ : ∃ v, t.ok = v := ⟨_, rfl⟩
        rw [hok] at hh
        have HOK := Lib.hid hok
        clear hok
        go_wp2_with fail
        (with_reducible refine hh.mono ?_)
        clear hh d0 d1 d2 d3 d4 d5
        rintro e w6 ⟨rfl, bb⟩
        have HD6 := Lib.hid (HB5.out.trans (bb.mono HB5.out.size))
        have HA7 := Lib.hid ((bb.block T (Array.getElem?_eq_some_iff.1 HA6.out).1).trans HA6.out)
        have HR7 := Lib.hid ((bb.cell (Nat.lt_trans HGT.out (Array.getElem?_eq_some_iff.1 HA6.out).1)).trans HR5.out)
        clear bb
        cases ok with
        | false =>
          have HR := Lib.hid (HPN.out fun h => absurd h (by rw [HOK.out]; decide))
          have ab := HA.out w6 HD6.out
          have f0 : w6.frozen? ⟨b, 0, none⟩ = false := by simp [World.frozen?, ab]
          have f1 : w6.frozen? ⟨b, 1, none⟩ = false := by simp [World.frozen?, ab]
          have f2 : w6.frozen? ⟨b, 2, none⟩ = false := by simp [World.frozen?, ab]
          have f3 : w6.frozen? ⟨b, 3, none⟩ = false := by simp [World.frozen?, ab]
          have f4 : w6.frozen? ⟨b, 4, none⟩ = false := by simp [World.frozen?, ab]
          have f5 : w6.frozen? ⟨b, 5, none⟩ = false := by simp [World.frozen?, ab]
          have HAB := Lib.hid ab
          obtain ⟨c0, c1, c2, c3, c4, c5⟩ := HC.out w6 HD6.out
          clear ab
          go_wp2_with fail
          refine bodyPost_ret (results_cell_tmp2_row rfl _ _ b 25 _ (0, 0) _ rfl (set6 HAB.out _ _ _ _ _ _) Try.underlying25 rfl (by kernel_rfl)) rfl ?_
          exact rk_no HR.out (below6 (HB1.out.trans (HD6.out.mono HB1.out.size)) HLE.out _ _ _ _ _ _)
        | true =>
          have HKE := Lib.hid (show t.back = bl s from by rw [← HKT.out]; exact HK.out.symm)
          go_upto_region 13 with fail
          refine wp_region_any (by kernel_rfl) ?_
          change wpAny _ _ _ _ _ _ _ (World.drew _)
          obtain ⟨u0, hu0⟩ : ∃ v, v = World.drew w6 := ⟨_, rfl⟩
          rw [← hu0]
          have hB0 : Below w1.heap.size w1 u0 := by rw [hu0]; exact HD6.out.drew
          have hT0 : u0.heap[T]? = some (.cells #[.string t.k, .string t.i, .string t.r, .string t.u.k, .string t.u.i, .string t.u.r] 25 (0, 0)) := by rw [hu0]; exact HA7.out
          have hR0 : u0.cell? ⟨g, 0, none⟩ = some (.string p0) := by rw [hu0]; exact HR7.out
          clear hu0
          refine Reg.take_at (i := 1) (d := 47) (v := ?_) rfl rfl (by kernel_rfl) (by kernel_rfl) (by kernel_rfl) (fun _ _ _ h => h) (Or.inl ⟨by rfl, ?_⟩) ?_
          rotate_left 1
          · intro w; go_simp <;> with_reducible rfl
          simp only [Act.put, List.setIfInBounds_toArray, List.set_cons_zero, List.set_cons_succ]
          refine Reg.take_at (i := 2) (d := 48) (v := ?_) rfl rfl (by kernel_rfl) (by kernel_rfl) (by kernel_rfl) (fun _ _ _ h => h) (Or.inl ⟨by rfl, ?_⟩) ?_
          rotate_left 1
          · intro w; go_simp <;> with_reducible rfl
          simp only [Act.put, List.setIfInBounds_toArray, List.set_cons_zero, List.set_cons_succ]
          refine wpAny_ready (rs := [0, 3]) (by decide +kernel) (by simp) ?_
          refine AllReady.cons rfl (fun KK hK => ?_) ?_
          · obtain ⟨d0, d1, d2, d3, d4, d5⟩ := six_at hT0
            go_simp
            refine hK _ _ ?_
            clear hK KK d0 d1 d2 d3 d4 d5
            refine wpAny_ready (rs := [3, 5]) (by decide +kernel) (by simp) ?_
            refine AllReady.cons rfl (fun KK hK => ?_) ?_
            · have rr := hR0
              go_simp
              refine hK _ _ ?_
              clear hK KK rr
              refine Reg.take_at (i := 4) (d := 50) (v := ?_) rfl rfl (by kernel_rfl) (by kernel_rfl) (by kernel_rfl) (fun _ _ _ h => h) (Or.inl ⟨by rfl, ?_⟩) ?_
              rotate_left 1
              · intro w; go_simp <;> with_reducible rfl
              simp only [Act.put, List.setIfInBounds_toArray, List.set_cons_zero, List.set_cons_succ]
              refine wpAny_ready (rs := [5]) (by decide +kernel) (by simp) ?_
              refine AllReady.cons rfl (fun KK hK => ?_) AllReady.nil
              have ab := HA.out u0 hB0
              have f0 : u0.frozen? ⟨b, 0, none⟩ = false := by simp [World.frozen?, ab]
              have f1 : u0.frozen? ⟨b, 1, none⟩ = false := by simp [World.frozen?, ab]
              have f2 : u0.frozen? ⟨b, 2, none⟩ = false := by simp [World.frozen?, ab]
              have f3 : u0.frozen? ⟨b, 3, none⟩ = false := by simp [World.frozen?, ab]
              have f4 : u0.frozen? ⟨b, 4, none⟩ = false := by simp [World.frozen?, ab]
              have f5 : u0.frozen? ⟨b, 5, none⟩ = false := by simp [World.frozen?, ab]
              have HAB := Lib.hid ab
              obtain ⟨c0, c1, c2, c3, c4, c5⟩ := HC.out u0 hB0
              clear ab
              go_simp
              refine hK _ _ ?_
              clear hK KK f0 f1 f2 f3 f4 f5 c0 c1 c2 c3 c4 c5
              obtain ⟨u1, hw⟩ : ∃ v, v = ((((((u0.setCell ⟨b, 0, none⟩ (.string t.k)).setCell ⟨b, 1, none⟩ (.string t.i)).setCell ⟨b, 2, none⟩ (.string t.r)).setCell ⟨b, 3, none⟩ (.string t.u.k)).setCell ⟨b, 4, none⟩ (.string t.u.i)).setCell ⟨b, 5, none⟩ (.string t.u.r)) := ⟨_, rfl⟩
              rw [← hw]
              have HWU := Lib.hid hw
              clear hw
              refine Reg.take_at (i := 6) (d := 3) (v := ?_) rfl rfl (by kernel_rfl) (by kernel_rfl) (by kernel_rfl) (fun _ _ _ h => h) (Or.inl ⟨by rfl, ?_⟩) ?_
              rotate_left 1
              · intro w; go_simp <;> with_reducible rfl
              simp only [Act.put, List.setIfInBounds_toArray, List.set_cons_zero, List.set_cons_succ]
              refine Reg.take_at (i := 7) (d := 4) (v := ?_) rfl rfl (by kernel_rfl) (by kernel_rfl) (by kernel_rfl) (fun _ _ _ h => h) (Or.inl ⟨by rfl, ?_⟩) ?_
              rotate_left 1
              · intro w; go_simp <;> with_reducible rfl
              simp only [Act.put, List.setIfInBounds_toArray, List.set_cons_zero, List.set_cons_succ]
              refine wpAny_done (by kernel_rfl) ?_ _
              go_wp2_with fail
              rw [HWU.out]
              refine bodyPost_ret (results_cell_tmp2_row rfl _ _ b 25 _ (0, 0) _ rfl (set6 HAB.out _ _ _ _ _ _) Try.underlying25 rfl (by kernel_rfl)) rfl ?_
              exact rk_yes HOK.out (b := true) HKE.out (below6 (HB1.out.trans (hB0.mono HB1.out.size)) HLE.out _ _ _ _ _ _)
            refine AllReady.cons rfl (fun KK hK => ?_) AllReady.nil
            have ab := HA.out u0 hB0
            have f0 : u0.frozen? ⟨b, 0, none⟩ = false := by simp [World.frozen?, ab]
            have f1 : u0.frozen? ⟨b, 1, none⟩ = false := by simp [World.frozen?, ab]
            have f2 : u0.frozen? ⟨b, 2, none⟩ = false := by simp [World.frozen?, ab]
            have f3 : u0.frozen? ⟨b, 3, none⟩ = false := by simp [World.frozen?, ab]
            have f4 : u0.frozen? ⟨b, 4, none⟩ = false := by simp [World.frozen?, ab]
            have f5 : u0.frozen? ⟨b, 5, none⟩ = false := by simp [World.frozen?, ab]
            have HAB := Lib.hid ab
            obtain ⟨c0, c1, c2, c3, c4, c5⟩ := HC.out u0 hB0
            clear ab
            go_simp
            refine hK _ _ ?_
            clear hK KK f0 f1 f2 f3 f4 f5 c0 c1 c2 c3 c4 c5
            obtain ⟨u1, hw⟩ : ∃ v, v = ((((((u0.setCell ⟨b, 0, none⟩ (.string t.k)).setCell ⟨b, 1, none⟩ (.string t.i)).setCell ⟨b, 2, none⟩ (.string t.r)).setCell ⟨b, 3, none⟩ (.string t.u.k)).setCell ⟨b, 4, none⟩ (.string t.u.i)).setCell ⟨b, 5, none⟩ (.string t.u.r)) := ⟨_, rfl⟩
            rw [← hw]
            have HWU := Lib.hid hw
            clear hw
            refine wpAny_ready (rs := [3]) (by decide +kernel) (by simp) ?_
            refine AllReady.cons rfl (fun KK hK => ?_) AllReady.nil
            have rr : u1.cell? ⟨g, 0, none⟩ = some (.string p0) := by rw [HWU.out]; exact keep6 HTB.out hR0
            go_simp
            refine hK _ _ ?_
            clear hK KK rr
            refine Reg.take_at (i := 4) (d := 50) (v := ?_) rfl rfl (by kernel_rfl) (by kernel_rfl) (by kernel_rfl) (fun _ _ _ h => h) (Or.inl ⟨by rfl, ?_⟩) ?_
            rotate_left 1
            · intro w; go_simp <;> with_reducible rfl
            simp only [Act.put, List.setIfInBounds_toArray, List.set_cons_zero, List.set_cons_succ]
            refine Reg.take_at (i := 6) (d := 3) (v := ?_) rfl rfl (by kernel_rfl) (by kernel_rfl) (by kernel_rfl) (fun _ _ _ h => h) (Or.inl ⟨by rfl, ?_⟩) ?_
            rotate_left 1
            · intro w; go_simp <;> with_reducible rfl
            simp only [Act.put, List.setIfInBounds_toArray, List.set_cons_zero, List.set_cons_succ]
            refine Reg.take_at (i := 7) (d := 4) (v := ?_) rfl rfl (by kernel_rfl) (by kernel_rfl) (by kernel_rfl) (fun _ _ _ h => h) (Or.inl ⟨by rfl, ?_⟩) ?_
            rotate_left 1
            · intro w; go_simp <;> with_reducible rfl
            simp only [Act.put, List.setIfInBounds_toArray, List.set_cons_zero, List.set_cons_succ]
            refine wpAny_done (by kernel_rfl) ?_ _
            go_wp2_with fail
            rw [HWU.out]
            refine bodyPost_ret (results_cell_tmp2_row rfl _ _ b 25 _ (0, 0) _ rfl (set6 HAB.out _ _ _ _ _ _) Try.underlying25 rfl (by kernel_rfl)) rfl ?_
            exact rk_yes HOK.out (b := true) HKE.out (below6 (HB1.out.trans (hB0.mono HB1.out.size)) HLE.out _ _ _ _ _ _)
          refine AllReady.cons rfl (fun KK hK => ?_) AllReady.nil
          have rr := hR0
          go_simp
          refine hK _ _ ?_
          clear hK KK rr
          refine Reg.take_at (i := 4) (d := 50) (v := ?_) rfl rfl (by kernel_rfl) (by kernel_rfl) (by kernel_rfl) (fun _ _ _ h => h) (Or.inl ⟨by rfl, ?_⟩) ?_
          rotate_left 1
          · intro w; go_simp <;> with_reducible rfl
          simp only [Act.put, List.setIfInBounds_toArray, List.set_cons_zero, List.set_cons_succ]
          refine wpAny_ready (rs := [0]) (by decide +kernel) (by simp) ?_
          refine AllReady.cons rfl (fun KK hK => ?_) AllReady.nil
          obtain ⟨d0, d1, d2, d3, d4, d5⟩ := six_at hT0
          go_simp
          refine hK _ _ ?_
          clear hK KK d0 d1 d2 d3 d4 d5
          refine wpAny_ready (rs := [5]) (by decide +kernel) (by simp) ?_
          refine AllReady.cons rfl (fun KK hK => ?_) AllReady.nil
          have ab := HA.out u0 hB0
          have f0 : u0.frozen? ⟨b, 0, none⟩ = false := by simp [World.frozen?, ab]
          have f1 : u0.frozen? ⟨b, 1, none⟩ = false := by simp [World.frozen?, ab]
          have f2 : u0.frozen? ⟨b, 2, none⟩ = false := by simp [World.frozen?, ab]
          have f3 : u0.frozen? ⟨b, 3, none⟩ = false := by simp [World.frozen?, ab]
          have f4 : u0.frozen? ⟨b, 4, none⟩ = false := by simp [World.frozen?, ab]
          have f5 : u0.frozen? ⟨b, 5, none⟩ = false := by simp [World.frozen?, ab]
          have HAB := Lib.hid ab
          obtain ⟨c0, c1, c2, c3, c4, c5⟩ := HC.out u0 hB0
          clear ab
          go_simp
          refine hK _ _ ?_
          clear hK KK f0 f1 f2 f3 f4 f5 c0 c1 c2 c3 c4 c5
          obtain ⟨u1, hw⟩ : ∃ v, v = ((((((u0.setCell ⟨b, 0, none⟩ (.string t.k)).setCell ⟨b, 1, none⟩ (.string t.i)).setCell ⟨b, 2, none⟩ (.string t.r)).setCell ⟨b, 3, none⟩ (.string t.u.k)).setCell ⟨b, 4, none⟩ (.string t.u.i)).setCell ⟨b, 5, none⟩ (.string t.u.r)) := ⟨_, rfl⟩
          rw [← hw]
          have HWU := Lib.hid hw
          clear hw
          refine Reg.take_at (i := 6) (d := 3) (v := ?_) rfl rfl (by kernel_rfl) (by kernel_rfl) (by kernel_rfl) (fun _ _ _ h => h) (Or.inl ⟨by rfl, ?_⟩) ?_
          rotate_left 1
          · intro w; go_simp <;> with_reducible rfl
          simp only [Act.put, List.setIfInBounds_toArray, List.set_cons_zero, List.set_cons_succ]
          refine Reg.take_at (i := 7) (d := 4) (v := ?_) rfl rfl (by kernel_rfl) (by kernel_rfl) (by kernel_rfl) (fun _ _ _ h => h) (Or.inl ⟨by rfl, ?_⟩) ?_
          rotate_left 1
          · intro w; go_simp <;> with_reducible rfl
          simp only [Act.put, List.setIfInBounds_toArray, List.set_cons_zero, List.set_cons_succ]
          refine wpAny_done (by kernel_rfl) ?_ _
          go_wp2_with fail
          rw [HWU.out]
          refine bodyPost_ret (results_cell_tmp2_row rfl _ _ b 25 _ (0, 0) _ rfl (set6 HAB.out _ _ _ _ _ _) Try.underlying25 rfl (by kernel_rfl)) rfl ?_
          exact rk_yes HOK.out (b := true) HKE.out (below6 (HB1.out.trans (hB0.mono HB1.out.size)) HLE.out _ _ _ _ _ _)
      · rw [decide_eq_false h1] at q1
        have HR9 := Lib.hid (rdk_none HK.out fun t _ => ⟨fun e => h0 (by injection e), fun e => h1 (by injection e)⟩)
        clear h0 h1
        have aT := HTA.out _ HBC.out
        obtain ⟨d0, d1, d2, d3, d4, d5⟩ := six_at aT
        have hh := H2.out ztp (by refine ⟨?_, ?_, ?_, ?_, ?_, ?_⟩ <;> decide) wc
        rw [show ztp.ok = false from rfl] at hh
        simp only [ztp, zus] at hh
        go_wp2_with fail
        (with_reducible refine hh.mono ?_)
        clear hh d0 d1 d2 d3 d4 d5 aT x0 x1 x2 y0 y1 y2 r0
        rintro e w4 ⟨rfl, bb⟩
        have HD4 := Lib.hid (HD3.out.trans ((Below.step HBC.out bb).mono HD3.out.size))
        clear bb
        have ab := HA.out w4 HD4.out
        have f0 : w4.frozen? ⟨b, 0, none⟩ = false := by simp [World.frozen?, ab]
        have f1 : w4.frozen? ⟨b, 1, none⟩ = false := by simp [World.frozen?, ab]
        have f2 : w4.frozen? ⟨b, 2, none⟩ = false := by simp [World.frozen?, ab]
        have f3 : w4.frozen? ⟨b, 3, none⟩ = false := by simp [World.frozen?, ab]
        have f4 : w4.frozen? ⟨b, 4, none⟩ = false := by simp [World.frozen?, ab]
        have f5 : w4.frozen? ⟨b, 5, none⟩ = false := by simp [World.frozen?, ab]
        have HAB := Lib.hid ab
        obtain ⟨c0, c1, c2, c3, c4, c5⟩ := HC.out w4 HD4.out
        clear ab
        go_wp2_with fail
        refine bodyPost_ret (results_cell_tmp2_row rfl _ _ b 25 _ (0, 0) _ rfl (set6 HAB.out _ _ _ _ _ _) Try.underlying25 rfl (by kernel_rfl)) rfl ?_
        exact rk_no HR9.out (below6 (HB1.out.trans (HD4.out.mono HB1.out.size)) HLE.out _ _ _ _ _ _)
end Go.Proofs.Ytpiojnphbanggaa.TupleOfKeyC
