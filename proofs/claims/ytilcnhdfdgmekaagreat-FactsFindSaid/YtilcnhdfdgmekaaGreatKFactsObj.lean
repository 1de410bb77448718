/- FactsPeople, FactsObj. -/
import Derived.Test.YtilcnhdfdgmekaaGreatKFactsColl
namespace Go.Proofs.YtilcnhdfdgmekaaGreat.FactsPeople
open Go.RowKit Base KeyPlain TuplePlain TupleRef TupleSpec TupleCut FMap FactsPlain FactsMem FactsHas FactsNew FactsEach FactsSort FactsLess FactsOrder FactsUsers FactsUsersOf FactsPeo FactsKeys FactsColl SortSlice TurnB RowN

theorem make_us (w : World) : (Instr.makeMap 85 none).run Tryz.prog w = .ok (.map (some w.heap.size)) (w.alloc (.map #[] 0)) := rfl
theorem us_once {w : World} {b : Nat} {us : List Us} (h : Mp Tryz.prog 30 w b (usL us)) : us.Nodup := by
  have := h.once
  unfold usL at this
  rw [List.map_map] at this
  exact nodup_of_map (f := fun u => Value.agg (uc u)) this
/-- users each once, as many as others, at most -/
theorem us_len {us l : List Us} (hn : us.Nodup) (h : ∀ u, u ∈ us ↔ u ∈ l) : us.length ≤ l.length := by
  rw [← FactsSort.mk_len ordU hn, mk_ext ordU h]
  exact FactsPlain.mk_len _
set_option maxRecDepth 100000 in
set_option maxHeartbeats 12800000 in
theorem people_any {fb gm : Nat} {G : List Grp} {lo : Nat} {w0 : World} (h : Fx lo w0 fb gm G) (hn : (alls G).length * 96 ≤ 140737488355328) :
    Calls Tryz.prog 29 #[.pointer (some ⟨fb, 0, none⟩)] w0 (UsersPost w0 (mk ltU ((alls G).map (·.u)))) := by
  obtain ⟨w2, hw2⟩ : ∃ v, v = (w0.alloc (.map #[] 0)).alloc (.cells #[.map (some w0.heap.size)] 85) := ⟨_, rfl⟩
  obtain ⟨mb, hmb⟩ : ∃ v, v = w0.heap.size := ⟨_, rfl⟩
  obtain ⟨bx, hbx⟩ : ∃ v, v = mb + 1 := ⟨_, rfl⟩
  have b2 : Below w0.heap.size w0 w2 := by rw [hw2]; exact al2 _ _ _
  have s2 : w2.heap.size = mb + 2 := by rw [hw2, hmb]; simp
  have hmp : Mp Tryz.prog 30 w2 mb (usL []) := by
    rw [hw2, hmb]
    exact (Mp.made w0).below (al (w0.alloc (.map #[] 0)) _) (by simp)
  have hb2 : w2.heap[bx]? = some (.cells #[.map (some mb)] 85 (0, 0)) := by
    rw [hw2, hbx, hmb]
    exact new2 w0 _ _
  rw [← hmb] at hw2
  have h2 := h.below b2
  obtain ⟨lf, lg, lG⟩ := h.lt
  have hF : ∀ k, Fb fb gm G k → k < w2.heap.size ∧ k ≠ mb := by
    rintro k (rfl | rfl | ⟨g, hg, rfl⟩)
    · exact ⟨by omega, by omega⟩
    · exact ⟨by omega, by omega⟩
    · have := lG g hg
      exact ⟨by omega, by omega⟩
  have T := peo_tells (fb := fb) (gm := gm) (G := G) (lo := w2.heap.size) (bx := bx) (mb := mb) (fun t ht => by
    obtain ⟨h1, h2, h3, h4, h5, h6⟩ := ok_fine (h.oks t ht)
    exact ⟨h4, h5, h6⟩) hF (by omega) (by omega) (by omega)
  have hq : PeoQ w2.heap.size bx mb [] (fun k => k = mb) w2 := ⟨Nat.le_refl _, hb2, fun k => Iff.rfl, [], hmp, by simp⟩
  have HE := Lib.hid (each_any T h2 hq)
  have HN := Lib.hid hn
  have HB2 := Lib.hid b2
  have HW2 := Lib.hid hw2
  have HMB := Lib.hid hmb
  have HBX := Lib.hid hbx
  have HS2 := Lib.hid s2
  have HGO := Lib.hid (fun (xs : List Us) (hx : ∀ u, u ∈ xs ↔ u ∈ (alls G).map (·.u)) => (mk_ext ordU hx : mk ltU xs = mk ltU ((alls G).map (·.u))))
  clear hw2 b2 s2 hmp hb2 h2 lf lg lG hF T hq h hn hmb
  generalize mk ltU ((alls G).map (·.u)) = goal at *
  go_enter Tryz.func29, Tryz.ntmps29
  have hmk := make_us w0
  go_upto_region 2 with fail
  clear hmk
  rw [← HMB.out, ← HBX.out, ← HW2.out]
  clear hbx
  go_wp2_with fail
  (with_reducible refine HE.out.mono ?_)
  rintro e w3 ⟨rfl, done, X, hp, hev⟩
  obtain ⟨hs3, hb3, hX, us, hmp3, hmem⟩ := hev.q
  have hc3 : w3.cell? ⟨bx, 0, none⟩ = some (.map (some mb)) := by simp [World.cell?, hb3]
  have b3 : Below w0.heap.size w0 w3 := hev.turn.belowOf HB2.out (by have := HS2.out; have := HMB.out; omega) (fun k hk => by rw [hk, HMB.out]; exact Nat.le_refl _)
  have hul : us.length ≤ (alls G).length := by
    have := us_len (us_once hmp3) hmem
    rw [List.length_map, hp.length_eq] at this
    exact this
  obtain ⟨w4, hw4⟩ : ∃ v, v = w3.alloc (.cells #[.map (some mb)] 85) := ⟨_, rfl⟩
  have b4 : Below w3.heap.size w3 w4 := by rw [hw4]; exact al _ _
  have a4 : w4.heap[w3.heap.size]? = some (.cells #[.map (some mb)] 85 (0, 0)) := by rw [hw4]; exact heap_alloc_new w3 _
  have hc4 : w4.cell? ⟨w3.heap.size, 0, none⟩ = some (.map (some mb)) := by simp [World.cell?, a4]
  have hmp4 : Mp Tryz.prog 30 w4 mb (usL us) := hmp3.below b4 hmp3.lt
  have HSEQ := Lib.hid (fun n hn => ukeys_gives n hn w3.heap.size mb us w4 (by rw [hw4]; simp) hc4 hmp4)
  have HC := Lib.hid (callsIn_wide.1 (collect_in 5 (by omega) 71 #[.pointer (some ⟨w3.heap.size, 0, none⟩)] (enters_of Tryz.func71 (by kernel_rfl) rfl) _ us.length (by have := HN.out; omega) w4 (HSEQ.out 3 (by omega))))
  have hkeys := callsIn_wide.1 (mapsKeys_in 5 mb w3)
  have HU := Lib.hid (show ∀ u, u ∈ us ↔ u ∈ (alls G).map (·.u) from fun u => by rw [hmem, List.mem_map, List.mem_map]; exact ⟨fun ⟨t, ht, e⟩ => ⟨t, hp.mem_iff.1 ht, e⟩, fun ⟨t, ht, e⟩ => ⟨t, hp.mem_iff.2 ht, e⟩⟩)
  have HND := Lib.hid (us_once hmp3)
  have HUL := Lib.hid hul
  have HB4 := Lib.hid (Below.step b3 b4)
  have HW4 := Lib.hid hw4
  clear hev hs3 hb3 hX hmp3 hmem b3 hul b4 a4 hc4 hmp4 hw4 hp
  go_wp2_with fail
  (with_reducible refine hkeys.mono ?_)
  rintro e w5 ⟨rfl, rfl⟩
  clear hkeys hc3
  rw [← HW4.out]
  go_wp2_with fail
  (with_reducible refine HC.out.mono ?_)
  rintro e w6 ⟨A, c, n, xs, rfl, hS, hnl, ho, hb6⟩
  have hmk6 : mk ltU xs = goal := HGO.out xs fun u => by rw [hS.mem_iff, HU.out]
  have nd : xs.Nodup := hS.nodup_iff.2 HND.out
  have hml := FactsSort.mk_len ordU nd
  have hfew : n < 4611686018427387904 := by have := HN.out; have := hS.length_eq; have := HUL.out; omega
  have hb06 : Below w0.heap.size w0 w6 := Below.step HB4.out hb6
  rcases ho.2 with ⟨he, h0⟩ | ⟨g2, cap, cur, he, hg3, hcur, hcap, _⟩
  · injection he with e1 e2 e3
    subst e1 e2 e3
    have hz : goal = [] := by rw [← hmk6, List.eq_nil_iff_length_eq_zero, hml, ← hnl]
    have HZ := Lib.hid hz
    have HB6 := Lib.hid hb06
    clear hS hnl ho hb6 hmk6 nd hml hfew hb06 hz
    go_wp2_with fail
    (with_reducible refine (sort_none _).mono ?_)
    rintro e w7 ⟨rfl, hb⟩
    have HF := Lib.hid (Below.step HB6.out hb)
    clear hb
    go_wp2_with fail
    go_ret
    exact ⟨none, 0, 0, by rw [HZ.out]; rfl, rfl, by rw [HZ.out]; exact fun i hi => by simp at hi, HF.out⟩
  · injection he with e1 e2 e3
    subst e1
    have hh := holds_of_own (enc := encU) (k := 3) (by decide) (fun _ => rfl) hnl ho
    have hgl := heap_lt hcur
    have HS := Lib.hid (fun c => sort_some (c := c) xs hnl hfew nd hgl hh)
    rw [hmk6] at HS
    have HB6 := Lib.hid hb06
    have HL := Lib.hid (show n = goal.length by rw [← hmk6, hml, ← hnl])
    have HG := Lib.hid (show w0.heap.size ≤ g2 ∧ g2 < w6.heap.size from ⟨by have := HB4.out.size; omega, hgl⟩)
    clear hS hnl ho hb6 hmk6 nd hml hfew hb06 hh hgl hcur hg3 hcap e2 e3
    go_wp2_with fail
    (with_reducible refine (HS.out c).mono ?_)
    rintro e w7 ⟨rfl, hh, hO⟩
    have hb7 : Below w0.heap.size w0 w7 := HB6.out.grown hO HB6.out.size fun k hk => by
      injection hk with hk
      rw [← hk]
      exact HG.out.1
    have HF := Lib.hid (show UsersPost w0 goal (.returned (.slice (some ⟨g2, 0, none⟩) n c)) w7 from ⟨_, c, n, HL.out, rfl, urow_of hh (Nat.lt_of_lt_of_le HG.out.2 hO.size), hb7⟩)
    clear hh hO hb7
    go_wp2_with fail
    go_ret
    exact HF.out
end Go.Proofs.YtilcnhdfdgmekaaGreat.FactsPeople
namespace Go.Proofs.YtilcnhdfdgmekaaGreat.FactsObj
open Go.RowKit Base KeyPlain TuplePlain TupleRef TupleSpec TupleCut FMap FactsPlain FactsMem FactsHas FactsEach TurnB RowN
open Go.ChangeMaps (setBlock)
open Go.Maps (Keyed)

theorem key_s : Keyed Tryz.prog 9 := Go.Maps.string_keyed Tryz.underlying9
theorem isKey_s (s : ByteArray) (h : s.size ≤ 4611686018427387904) : IsKey Tryz.prog 9 (.string s) := by
  have m1 : s.size ≤ maxLen := by unfold maxLen; omega
  unfold IsKey keyOf
  simp [Tryz.underlying9, mapKey, m1]
def ssL (ss : List ByteArray) : List (Value × Value) := ss.map fun s => (.string s, .agg #[])
theorem mem_ssL {ss : List ByteArray} {s : ByteArray} : (Value.string s) ∈ (ssL ss).map (·.1) ↔ s ∈ ss := by
  unfold ssL
  rw [List.map_map]
  constructor
  · intro h
    obtain ⟨x, hx, e⟩ := List.mem_map.1 h
    rw [← (by injection e : x = s)]
    exact hx
  · exact fun h => List.mem_map.2 ⟨s, h, rfl⟩
theorem under_ss : Tryz.prog.underlying 77 = some (.map 9 66) := Tryz.underlying77
theorem add_s {w : World} {mb : Nat} {ss : List ByteArray} (h : Mp Tryz.prog 9 w mb (ssL ss)) (s : ByteArray) (hs : s.size ≤ 4611686018427387904) :
    ∃ o, (Instr.mapUpdate 77 (.map (some mb)) (.string s) (.agg #[])).run Tryz.prog w = .ok () (setBlock w mb o) ∧ ∃ ss', Mp Tryz.prog 9 (setBlock w mb o) mb (ssL ss') ∧ ∀ x, x ∈ ss' ↔ x ∈ ss ∨ x = s := by
  by_cases hm : s ∈ ss
  · obtain ⟨o, hrun, hmp⟩ := h.again key_s under_ss (x := .string s) (v := .agg #[]) (List.mem_map.2 ⟨_, hm, rfl⟩)
    exact ⟨o, hrun, ss, hmp, fun u => ⟨.inl, fun q => q.elim id (fun e => by rw [e]; exact hm)⟩⟩
  · obtain ⟨o, hrun, hmp⟩ := h.add key_s under_ss (x := .string s) (v := .agg #[]) (isKey_s _ hs) (fun q => hm (mem_ssL.1 q))
    exact ⟨o, hrun, ss ++ [s], by simpa [ssL] using hmp, fun u => by simp⟩
/-- a row of two users, made since -/
def TwoV (B : Nat) (t : Tp) (v : Value) (w : World) : Prop := ∃ b : Nat, v = .slice (some ⟨b, 0, none⟩) 2 2 ∧ B ≤ b ∧ w.heap[b]? = some (.cells #[.string t.k, .string t.i, .string t.r, .string t.u.k, .string t.u.i, .string t.u.r] 30 (0, 0))
theorem TwoV.below {B : Nat} {t : Tp} {v : Value} {w w' : World} (h : TwoV B t v w) (hb : Below w.heap.size w w') : TwoV B t v w' := by
  obtain ⟨b, h1, h2, h3⟩ := h
  exact ⟨b, h1, h2, (hb.block b (heap_lt h3)).trans h3⟩
theorem two_cells {w : World} {b i : Nat} {t : Tp} {u : Us} (h : w.heap[b]? = some (.cells #[.string t.k, .string t.i, .string t.r, .string t.u.k, .string t.u.i, .string t.u.r] 30 (0, 0))) (hu : [t.obj, t.u][i]? = some u) :
    w.cell? ⟨b, i * 3, none⟩ = some (.string u.k) ∧ w.cell? ⟨b, i * 3 + 1, none⟩ = some (.string u.i) ∧ w.cell? ⟨b, i * 3 + 2, none⟩ = some (.string u.r) := by
  rcases i with _ | _ | i
  · simp at hu; subst hu; simp [World.cell?, h, Tp.obj]
  · simp at hu; subst hu; simp [World.cell?, h]
  · simp at hu
theorem cells_ne {P : Program} {k : TypeId} {w : World} {mb b : Nat} {l : List (Value × Value)} {cs : Array Value} {t : TypeId} {fr : Nat × Nat} (h : Mp P k w mb l) (hb : w.heap[b]? = some (.cells cs t fr)) : b ≠ mb := by
  rintro rfl
  obtain ⟨es, c, hm, _⟩ := h.ex
  rw [hb] at hm
  cases hm
theorem idx_us {A : Option Addr} {g o n c i : Nat} (hA : A = some ⟨g, o, none⟩) (hi : i < n) (w : World) : (Instr.indexAt 47 (.slice A n c) (.int .i64 (i : Int))).run Tryz.prog w = .ok (.pointer (some ⟨g, o + i * 3, none⟩)) w := by
  subst hA
  have h2 : (i : Int) < n := by omega
  go_simp
set_option maxRecDepth 100000 in
set_option maxHeartbeats 12800000 in
theorem obj_any {w : World} {kb bx mb : Nat} {kind : ByteArray} {ss : List ByteArray} (hk : w.heap[kb]? = some (.cells #[.string kind] 9 (0, 0))) (hx : w.heap[bx]? = some (.cells #[.map (some mb)] 77 (0, 0))) (h : Mp Tryz.prog 9 w mb (ssL ss)) (t : Tp) (ht : TpF t) :
    Calls Tryz.prog 41 #[.agg (tc t), .pointer (some ⟨kb, 0, none⟩), .pointer (some ⟨bx, 0, none⟩)] w fun e w' => e = .returned (.tuple #[]) ∧ (∃ ss', Mp Tryz.prog 9 w' mb (ssL ss') ∧ ∀ s, s ∈ ss' ↔ s ∈ ss ∨ ∃ u ∈ [t.obj, t.u], u.k = kind ∧ u.i = s) ∧ Turn (fun g => g = mb) w w' := by
  obtain ⟨w1, hw1⟩ : ∃ v, v = w.alloc (.cells (tc t) 32) := ⟨_, rfl⟩
  obtain ⟨b, hbe⟩ : ∃ v, v = w.heap.size := ⟨_, rfl⟩
  have b1 : Below w.heap.size w w1 := by rw [hw1]; exact al _ _
  have a1 : w1.heap[b]? = some (.cells (tc t) 32 (0, 0)) := by rw [hw1, hbe]; exact heap_alloc_new w _
  have hb1 : b < w1.heap.size := by rw [hw1, hbe]; simp
  have hkb1 := (b1.block kb (heap_lt hk)).trans hk
  have hbx1 := (b1.block bx (heap_lt hx)).trans hx
  have HC := Lib.hid (fun (w' : World) (hw' : Below w1.heap.size w1 w') => six_at ((hw'.block b hb1).trans a1))
  have HM1 := Lib.hid (h.below b1 h.lt)
  have HKB := Lib.hid (fun (w' : World) (hw' : Below w1.heap.size w1 w') => (hw'.block kb (heap_lt hkb1)).trans hkb1)
  have HBX := Lib.hid (fun (w' : World) (hw' : Below w1.heap.size w1 w') => (hw'.block bx (heap_lt hbx1)).trans hbx1)
  have HTF := Lib.hid (show UsF t.obj ∧ UsF t.u from ⟨⟨ht.1, ht.2.1, ht.2.2.1⟩, ht.2.2.2⟩)
  have hkn := cells_ne h hk
  have hxn := cells_ne h hx
  have HKN := Lib.hid (And.intro hkn hxn)
  clear hkn hxn
  have HB1 := Lib.hid b1
  have HW1 := Lib.hid hw1
  have HBE := Lib.hid hbe
  clear b1 a1 hb1 hkb1 hbx1 hw1 hbe h ht hk hx
  unfold tc at HW1 ⊢
  go_enter Tryz.func41, Tryz.ntmps41
  go_upto_region 1 with fail
  rw [← HW1.out, ← HBE.out]
  have hJ0 : Below w1.heap.size w1 (World.drew w1) := (Below.refl _ _).drew
  refine wp_region_any (by kernel_rfl) ?_
  change wpAny _ _ _ _ _ _ _ (World.drew _)
  refine Inv.inv_any (fun (i : Nat) (v : Value) (w : World) => match i with | 0 => v = .agg #[.string t.k, .string t.i, .string t.r, .string t.u.k, .string t.u.i, .string t.u.r] | 1 => v = .agg #[.string t.k, .string t.i, .string t.r] | 2 => v = .pointer (some ⟨b, 3, none⟩) | 3 => v = .agg #[.string t.u.k, .string t.u.i, .string t.u.r] | 4 => TwoV w1.heap.size t v w | 5 => v = .int .i64 2 | 6 => v = .int .i64 0 | _ => True) (fun w' : World => Below w1.heap.size w1 w') _ 7 25 rfl rfl rfl (by kernel_rfl) (by kernel_rfl) hJ0 ?_ ?_ ?_ ?_
  · intro j v w w' h hb
    match j, h with
    | 0, h => exact h
    | 1, h => exact h
    | 2, h => exact h
    | 3, h => exact h
    | 4, h => exact TwoV.below h hb
    | 5, h => exact h
    | 6, h => exact h
    | (_ + 7), _ => exact trivial
  · skip
    refine Inv.from_cons _ _ _ _ rfl (fun _ a w hJ hF F K hK => ?_) ?_
    · have hz : a.tmps.size = 25 := hF.size
      have e3 : a.tmps[3]? = some (.pointer (some ⟨b, 0, none⟩)) := Inv2.some_slot (by rw [hz]; exact Nat.le_of_ble_eq_true rfl) (hF.slot 3 (by kernel_rfl))
      clear F hF hz
      obtain ⟨d0, d1, d2, d3, d4, d5⟩ := HC.out _ hJ
      go_simp
      exact hK (.agg #[.string t.k, .string t.i, .string t.r, .string t.u.k, .string t.u.i, .string t.u.r]) _ hJ (Below.refl _ _) rfl
    refine Inv.from_cons _ _ _ _ rfl (fun _ a w hJ hF F K hK => ?_) ?_
    · have hz : a.tmps.size = 25 := hF.size
      have e6 : a.tmps[6]? = some (.agg #[.string t.k, .string t.i, .string t.r, .string t.u.k, .string t.u.i, .string t.u.r]) := Inv2.some_slot (by rw [hz]; exact Nat.le_of_ble_eq_true rfl) (F 0 (by kernel_rfl) 6 rfl)
      clear F hF hz
      have hh := FactsHas.object_any t w
      unfold tc uc Tp.obj at hh
      go_simp
      (with_reducible refine hh.mono ?_)
      rintro e' w' ⟨rfl, hb'⟩
      go_simp
      exact hK (.agg #[.string t.k, .string t.i, .string t.r]) _ (Below.step hJ hb') hb' rfl
    refine Inv.from_cons _ _ _ _ rfl (fun _ a w hJ hF F K hK => ?_) ?_
    · have hz : a.tmps.size = 25 := hF.size
      have e3 : a.tmps[3]? = some (.pointer (some ⟨b, 0, none⟩)) := Inv2.some_slot (by rw [hz]; exact Nat.le_of_ble_eq_true rfl) (hF.slot 3 (by kernel_rfl))
      clear F hF hz
      go_simp
      exact hK (.pointer (some ⟨b, 3, none⟩)) _ hJ (Below.refl _ _) rfl
    refine Inv.from_cons _ _ _ _ rfl (fun _ a w hJ hF F K hK => ?_) ?_
    · have hz : a.tmps.size = 25 := hF.size
      have e8 : a.tmps[8]? = some (.pointer (some ⟨b, 3, none⟩)) := Inv2.some_slot (by rw [hz]; exact Nat.le_of_ble_eq_true rfl) (F 2 (by kernel_rfl) 8 rfl)
      clear F hF hz
      obtain ⟨d0, d1, d2, d3, d4, d5⟩ := HC.out _ hJ
      go_simp
      exact hK (.agg #[.string t.u.k, .string t.u.i, .string t.u.r]) _ hJ (Below.refl _ _) rfl
    refine Inv.from_cons _ _ _ _ rfl (fun _ a w hJ hF F K hK => ?_) ?_
    · have hz : a.tmps.size = 25 := hF.size
      have e7 : a.tmps[7]? = some (.agg #[.string t.k, .string t.i, .string t.r]) := Inv2.some_slot (by rw [hz]; exact Nat.le_of_ble_eq_true rfl) (F 1 (by kernel_rfl) 7 rfl)
      have e9 : a.tmps[9]? = some (.agg #[.string t.u.k, .string t.u.i, .string t.u.r]) := Inv2.some_slot (by rw [hz]; exact Nat.le_of_ble_eq_true rfl) (F 3 (by kernel_rfl) 9 rfl)
      clear F hF hz
      go_simp
      exact hK _ _ (hJ.alloc (hJ.size) _) ((Below.refl _ _).alloc (Nat.le_refl _) _) ⟨w.heap.size, rfl, hJ.size, heap_alloc_new _ _⟩
    refine Inv.from_cons _ _ _ _ rfl (fun _ a w hJ hF F K hK => ?_) ?_
    · have hz : a.tmps.size = 25 := hF.size
      obtain ⟨x10, e10, f4⟩ : ∃ xv, a.tmps[10]? = some xv ∧ TwoV w1.heap.size t xv w := ⟨_, Inv2.some_slot (by rw [hz]; exact Nat.le_of_ble_eq_true rfl) rfl, F 4 (by kernel_rfl) 10 rfl⟩
      clear F hF hz
      obtain ⟨bb, rfl, hbb, hbc⟩ := f4
      go_simp
      exact hK (.int .i64 2) _ hJ (Below.refl _ _) rfl
    refine Inv.from_cons _ _ _ _ rfl (fun _ a w hJ hF F K hK => ?_) ?_
    · have hz : a.tmps.size = 25 := hF.size
      clear F hF hz
      go_simp
      exact hK (.int .i64 0) _ hJ (Below.refl _ _) rfl
    exact Inv.from_end _ _ _ _ (by decide +kernel)
  · intro o ho; exact absurd ho (by simp)
  · intro _ a w hJ hF F
    obtain ⟨f, hf⟩ : ∃ f : Nat → Value, ∀ i, a.tmps.getD i undef = f i := ⟨_, fun _ => rfl⟩
    have g0 : f 0 = (.agg #[.string t.k, .string t.i, .string t.r, .string t.u.k, .string t.u.i, .string t.u.r]) := (hf 0).symm.trans (hF.slot 0 (by kernel_rfl))
    have g1 : f 1 = (.pointer (some ⟨kb, 0, none⟩)) := (hf 1).symm.trans (hF.slot 1 (by kernel_rfl))
    have g2 : f 2 = (.pointer (some ⟨bx, 0, none⟩)) := (hf 2).symm.trans (hF.slot 2 (by kernel_rfl))
    have g3 : f 3 = (.pointer (some ⟨b, 0, none⟩)) := (hf 3).symm.trans (hF.slot 3 (by kernel_rfl))
    have g6 : f 6 = (.agg #[.string t.k, .string t.i, .string t.r, .string t.u.k, .string t.u.i, .string t.u.r]) := (hf 6).symm.trans (F 0 6 rfl)
    have g7 : f 7 = (.agg #[.string t.k, .string t.i, .string t.r]) := (hf 7).symm.trans (F 1 7 rfl)
    have g8 : f 8 = (.pointer (some ⟨b, 3, none⟩)) := (hf 8).symm.trans (F 2 8 rfl)
    have g9 : f 9 = (.agg #[.string t.u.k, .string t.u.i, .string t.u.r]) := (hf 9).symm.trans (F 3 9 rfl)
    obtain ⟨x10, g10⟩ : ∃ x, f 10 = x := ⟨_, rfl⟩
    have f4 : TwoV w1.heap.size t x10 w := by rw [← g10, ← hf 10]; exact F 4 10 rfl
    have g11 : f 11 = (.int .i64 2) := (hf 11).symm.trans (F 5 11 rfl)
    have g12 : f 12 = (.int .i64 0) := (hf 12).symm.trans (F 6 12 rfl)
    have ha := Frames.frame (show a.tmps.size = 25 from hF.size) hF.defers hf (l := [f 0, f 1, f 2, f 3, f 4, f 5, f 6, f 7, f 8, f 9, f 10, f 11, f 12, f 13, f 14, f 15, f 16, f 17, f 18, f 19, f 20, f 21, f 22, f 23, f 24]) rfl
    simp only [g0, g1, g2, g3, g6, g7, g8, g9, g10, g11, g12] at ha
    clear F hF hf g0 g1 g2 g3 g6 g7 g8 g9 g10 g11 g12
    subst ha
    obtain ⟨bb, rfl, hbb, hbc⟩ := f4
    have hmp1 := HM1.out.below hJ (HM1.out.lt)
    have hkb1 := HKB.out _ hJ
    have hbx1 := HBX.out _ hJ
    have hB1 := HB1.out.trans (hJ.mono HB1.out.size)
    have hne1 : mb ≠ bb ∧ mb < w.heap.size := ⟨by have := HM1.out.lt; omega, hmp1.lt⟩
    have HMP := Lib.hid hmp1
    have HTWO := Lib.hid hbc
    have HKB1 := Lib.hid hkb1
    have HBX1 := Lib.hid hbx1
    have HBW := Lib.hid hB1
    have HNE := Lib.hid hne1
    clear hJ hbb hbc hmp1 hkb1 hbx1 hB1 hne1 HC HM1 HKB HBX HB1
    go_wp2_with fail
    go_loopw [12] (fun vi wr => ∃ (i : Nat) (ss' : List ByteArray), vi = .int .i64 i ∧ i ≤ 2 ∧ Mp Tryz.prog 9 wr mb (ssL ss') ∧ (∀ s, s ∈ ss' ↔ s ∈ ss ∨ ∃ u ∈ [t.obj, t.u].take i, u.k = kind ∧ u.i = s) ∧ Turn (fun g => g = mb) w wr) (fun vi _ => 2 - (intOf vi).toNat)
    case atStart => exact ⟨0, ss, rfl, by omega, HMP.out, by simp, Turn.refl _ _⟩
    case round =>
      obtain ⟨i, ss', rfl, hin, hmp, hmem, hturn⟩ := hrel
      have HX := Lib.hid hmp
      have HM := Lib.hid hmem
      have HTN := Lib.hid hturn
      have hkb2 := (hturn.block kb (heap_lt HKB1.out) HKN.out.1).trans HKB1.out
      have hbx2 := (hturn.block bx (heap_lt HBX1.out) HKN.out.2).trans HBX1.out
      have htw2 := (hturn.block bb (heap_lt HTWO.out) (Ne.symm HNE.out.1)).trans HTWO.out
      have hmlt := hmp.lt
      clear hmp hmem hturn
      by_cases hlt : i < 2
      · obtain ⟨u, hu⟩ : ∃ u, [t.obj, t.u][i]? = some u := ⟨_, List.getElem?_eq_getElem (by simpa using hlt)⟩
        have huf : UsF u := by
          rcases i with _ | _ | i
          · simp at hu; rw [← hu]; exact HTF.out.1
          · simp at hu; rw [← hu]; exact HTF.out.2
          · omega
        obtain ⟨d0, d1, d2⟩ := two_cells htw2 hu
        have hidx := idx_us (n := 2) (c := 2) (A := some ⟨bb, 0, none⟩) rfl hlt
        obtain ⟨w2, hw2⟩ : ∃ v, v = wr.alloc (.cells #[.string u.k, .string u.i, .string u.r] 30) := ⟨_, rfl⟩
        obtain ⟨ub, hub⟩ : ∃ v, v = wr.heap.size := ⟨_, rfl⟩
        have b2 : Below wr.heap.size wr w2 := by rw [hw2]; exact al _ _
        have a2 : w2.heap[ub]? = some (.cells #[.string u.k, .string u.i, .string u.r] 30 (0, 0)) := by rw [hw2, hub]; exact heap_alloc_new wr _
        have e0 : w2.cell? ⟨ub, 0, none⟩ = some (.string u.k) := by simp [World.cell?, a2]
        have e1 : w2.cell? ⟨ub, 1, none⟩ = some (.string u.i) := by simp [World.cell?, a2]
        have y0 : w2.cell? ⟨kb, 0, none⟩ = some (.string kind) := by simp [World.cell?, (b2.block kb (heap_lt hkb2)).trans hkb2]
        have y1 : w2.cell? ⟨bx, 0, none⟩ = some (.map (some mb)) := by simp [World.cell?, (b2.block bx (heap_lt hbx2)).trans hbx2]
        have hm2 := HX.out.below b2 hmlt
        have T2 : Turn (fun g => g = mb) w w2 := HTN.out.step (Turn.ofBelow b2)
        have HW2 := Lib.hid hw2
        have HUB := Lib.hid hub
        have HU := Lib.hid hu
        have HT2 := Lib.hid T2
        have HM2 := Lib.hid hm2
        have HLT := Lib.hid hlt
        obtain ⟨q, hq⟩ : ∃ q : Bool, (u.k.toList == kind.toList) = q := ⟨_, rfl⟩
        have hqe : q = decide (u.k = kind) := by rw [← hq, ba_beq]
        have HQ := Lib.hid hqe
        cases q with
        | true =>
          have hki : u.k = kind := by simpa using HQ.out.symm
          obtain ⟨o, hrun, ss2, hmp2, hss2⟩ := add_s hm2 u.i huf.2.1
          have HF := Lib.hid (show Mp Tryz.prog 9 (setBlock w2 mb o) mb (ssL ss2) ∧ (∀ s, s ∈ ss2 ↔ s ∈ ss' ∨ s = u.i) ∧ Turn (fun g => g = mb) w (setBlock w2 mb o) from ⟨hmp2, hss2, T2.step (Turn.ofGrown (set_only w2 mb o) fun k hk _ => (Option.some.inj hk).symm)⟩)
          have HKI := Lib.hid hki
          clear hkb2 hbx2 htw2 hmlt hu huf hw2 hub b2 a2 hm2 T2 hqe hki hmp2 hss2
          go_upto_region 4 with fail
          rw [← HW2.out, ← HUB.out]
          clear d0 d1 d2 hidx
          go_wp2_with fail
          go_roundw
          case rel =>
            refine ⟨i + 1, ss2, by go_num, by have := HLT.out; omega, HF.out.1, fun s => ?_, HF.out.2.2⟩
            rw [HF.out.2.1 s, HM.out s, List.take_add_one, HU.out, Option.toList_some]
            simp only [List.mem_append, List.mem_singleton]
            constructor
            · rintro ((h | ⟨v, hv, h1, h2⟩) | rfl)
              · exact .inl h
              · exact .inr ⟨v, .inl hv, h1, h2⟩
              · exact .inr ⟨u, .inr rfl, HKI.out, rfl⟩
            · rintro (h | ⟨v, hv | rfl, h1, h2⟩)
              · exact .inl (.inl h)
              · exact .inl (.inr ⟨v, hv, h1, h2⟩)
              · exact .inr h2.symm
          case measure => have := HLT.out; simp [intOf]; omega
        | false =>
          have hki : u.k ≠ kind := by simpa using HQ.out.symm
          have HKI := Lib.hid hki
          clear hkb2 hbx2 htw2 hmlt hu huf hw2 hub b2 a2 hm2 T2 hqe hki
          go_upto_region 4 with fail
          rw [← HW2.out, ← HUB.out]
          clear d0 d1 d2 hidx
          go_wp2_with fail
          go_roundw
          case rel =>
            refine ⟨i + 1, ss', by go_num, by have := HLT.out; omega, HM2.out, fun s => ?_, HT2.out⟩
            rw [HM.out s, List.take_add_one, HU.out, Option.toList_some]
            simp only [List.mem_append, List.mem_singleton]
            constructor
            · rintro (h | ⟨v, hv, h1, h2⟩)
              · exact .inl h
              · exact .inr ⟨v, .inl hv, h1, h2⟩
            · rintro (h | ⟨v, hv | rfl, h1, h2⟩)
              · exact .inl h
              · exact .inr ⟨v, hv, h1, h2⟩
              · exact absurd h1 HKI.out
          case measure => have := HLT.out; simp [intOf]; omega
      · have hi : i = 2 := by omega
        clear hkb2 hbx2 htw2 hmlt
        go_wp2_with fail
        go_end0
        have hm := HM.out
        rw [hi] at hm
        exact ⟨rfl, ⟨ss', HX.out, fun s => by rw [hm s]; exact Iff.rfl⟩, (Turn.ofBelow HBW.out).step HTN.out⟩
end Go.Proofs.YtilcnhdfdgmekaaGreat.FactsObj
