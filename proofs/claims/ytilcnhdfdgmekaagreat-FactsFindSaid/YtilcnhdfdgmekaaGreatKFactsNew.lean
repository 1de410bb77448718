/- FactsDrop, FactsNew. -/
import Derived.Test.YtilcnhdfdgmekaaGreatKFactsPut
import Derived.Test.YtilcnhdfdgmekaaGreatKInvT
namespace Go.Proofs.YtilcnhdfdgmekaaGreat.FactsDrop
open Go.RowKit Base KeyPlain TuplePlain TupleRef TupleSpec TupleCut FMap FactsPlain FactsMem FactsHas FactsPut
open Go.ChangeMaps (setBlock)

/-- a tuple less among those with its relation to its object -/
theorem Fx.del {lo : Nat} {w : World} {fb gm : Nat} {G : List Grp} (h : Fx lo w fb gm G) {t : Tp} {g : Grp} (hg : g ∈ G) (ht : t ∈ g.ts) (ty : TypeId) :
    ∃ o G' g', (Builtin.delete_ #[68, 32] ty #[.map (some g.b), .agg (tc t)]).run Tryz.prog w = .ok (.tuple #[]) (setBlock w g.b o) ∧ Fx lo (setBlock w g.b o) fb gm G' ∧ (∀ x, x ∈ alls G' ↔ x ∈ alls G ∧ x ≠ t) ∧ g' ∈ G' ∧ g'.u = g.u ∧ g'.b = g.b ∧ Wn lo w (setBlock w g.b o) := by
  obtain ⟨o, j, hrun, hj, hm⟩ := (h.each g hg).drop (ty := ty) key_tp under_tps (x := .agg (tc t)) (v := .agg #[]) (List.mem_map.2 ⟨t, ht, rfl⟩)
  obtain ⟨es, c, hgb, _⟩ := (h.each g hg).ex
  have keep : ∀ k, k ≠ g.b → (setBlock w g.b o).heap[k]? = w.heap[k]? := fun k hk => set_block hgb hk
  have hjt : g.ts[j]? = some t := by
    unfold tpsL at hj
    rw [List.getElem?_map] at hj
    obtain ⟨s, hs, e⟩ := Option.map_eq_some_iff.1 hj
    have e1 : Value.agg (tc s) = Value.agg (tc t) := congrArg Prod.fst e
    rw [hs, tc_inj (by injection e1 : tc s = tc t)]
  have hno := h.once
  have hgn : g.ts.Nodup := by
    have := (h.each g hg).once
    unfold tpsL at this
    rw [List.map_map] at this
    exact nodup_of_map (f := fun t => Value.agg (tc t)) this
  have her : ∀ x, x ∈ g.ts.eraseIdx j ↔ x ∈ g.ts ∧ x ≠ t := by
    intro x
    rw [List.mem_eraseIdx_iff_getElem?]
    constructor
    · rintro ⟨i, hi, hx⟩
      refine ⟨List.mem_of_getElem? hx, ?_⟩
      rintro rfl
      exact hi ((List.getElem?_inj (List.getElem?_eq_some_iff.1 hx).1 hgn).1 (hx.trans hjt.symm))
    · rintro ⟨hx, hne⟩
      obtain ⟨i, hi, e⟩ := List.getElem_of_mem hx
      refine ⟨i, ?_, by rw [List.getElem?_eq_getElem hi, e]⟩
      rintro rfl
      rw [List.getElem?_eq_getElem hi, e] at hjt
      exact hne (Option.some.inj hjt)
  obtain ⟨A, B, rfl⟩ := List.append_of_mem hg
  have hap := h.apart
  rw [List.map_append, List.map_cons, List.nodup_append] at hap
  have hB := List.nodup_cons.1 hap.2.1
  have hne : ∀ x ∈ A ++ B, x.b ≠ g.b := by
    intro x hx
    rcases List.mem_append.1 hx with hx | hx
    · exact hap.2.2 _ (List.mem_map.2 ⟨x, hx, rfl⟩) _ (by simp)
    · exact fun q => hB.1 (List.mem_map.2 ⟨x, hx, q⟩)
  have hnt : ∀ x ∈ A ++ B, t ∉ x.ts := by
    intro x hx hq
    unfold alls at hno
    rw [List.flatMap_append, List.flatMap_cons, List.nodup_append, List.nodup_append] at hno
    rcases List.mem_append.1 hx with hx | hx
    · exact hno.2.2 t (List.mem_flatMap.2 ⟨x, hx, hq⟩) t (by simp [ht]) rfl
    · exact hno.2.1.2.2 t ht t (List.mem_flatMap.2 ⟨x, hx, hq⟩) rfl
  have sub : ∀ x, x ∈ A ++ ⟨g.u, g.b, g.ts.eraseIdx j⟩ :: B → x = ⟨g.u, g.b, g.ts.eraseIdx j⟩ ∨ (x ∈ A ++ B ∧ x ∈ A ++ g :: B) := by
    intro x hx
    rcases List.mem_append.1 hx with hx | hx
    · exact .inr ⟨by simp [hx], by simp [hx]⟩
    · rcases List.mem_cons.1 hx with rfl | hx
      · exact .inl rfl
      · exact .inr ⟨by simp [hx], by simp [hx]⟩
  refine ⟨o, A ++ ⟨g.u, g.b, g.ts.eraseIdx j⟩ :: B, ⟨g.u, g.b, g.ts.eraseIdx j⟩, hrun, ⟨(keep fb (fun q => by have := h.box; rw [q, hgb] at this; cases this)).trans h.box, ?_, ?_, ?_, ?_, ?_, ?_, ⟨h.low.1, h.low.2.1, ?_⟩⟩, ?_, by simp, rfl, rfl, Wn.set (h.each g hg) (h.low.2.2 g hg) o⟩
  · have e : topL (A ++ ⟨g.u, g.b, g.ts.eraseIdx j⟩ :: B) = topL (A ++ g :: B) := by simp [topL]
    rw [e]
    exact h.top.same (keep gm (Ne.symm (h.ne g hg)))
  · intro x hx
    rcases sub x hx with rfl | ⟨hx, hx2⟩
    · show Mp _ _ _ g.b (tpsL (g.ts.eraseIdx j))
      unfold tpsL at hm ⊢
      rw [er_map]
      exact hm
    · exact (h.each x hx2).same (keep _ (hne x hx))
  · intro x hx s hs
    rcases sub x hx with rfl | ⟨hx, hx2⟩
    · exact h.obj g hg s (List.mem_of_mem_eraseIdx hs)
    · exact h.obj x hx2 s hs
  · intro s hs
    obtain ⟨x, hx, hsx⟩ := mem_alls.1 hs
    rcases sub x hx with rfl | ⟨hx, hx2⟩
    · exact h.oks s (mem_alls.2 ⟨g, hg, List.mem_of_mem_eraseIdx hsx⟩)
    · exact h.oks s (mem_alls.2 ⟨x, hx2, hsx⟩)
  · have e : (A ++ ⟨g.u, g.b, g.ts.eraseIdx j⟩ :: B).map (·.b) = (A ++ g :: B).map (·.b) := by simp
    rw [e]
    exact h.apart
  · intro x hx
    rcases sub x hx with rfl | ⟨hx, hx2⟩
    · exact h.ne g hg
    · exact h.ne x hx2
  · intro x hx
    rcases sub x hx with rfl | ⟨hx, hx2⟩
    · exact h.low.2.2 g hg
    · exact h.low.2.2 x hx2
  · intro x
    rw [mem_alls, mem_alls]
    constructor
    · rintro ⟨y, hy, hxy⟩
      rcases sub y hy with rfl | ⟨hy, hy2⟩
      · exact ⟨⟨g, hg, ((her x).1 hxy).1⟩, ((her x).1 hxy).2⟩
      · exact ⟨⟨y, hy2, hxy⟩, fun q => hnt y hy (q ▸ hxy)⟩
    · rintro ⟨⟨y, hy, hxy⟩, hne2⟩
      rcases List.mem_append.1 hy with hy | hy
      · exact ⟨y, by simp [hy], hxy⟩
      · rcases List.mem_cons.1 hy with rfl | hy
        · exact ⟨⟨y.u, y.b, y.ts.eraseIdx j⟩, by simp, (her x).2 ⟨hxy, hne2⟩⟩
        · exact ⟨y, by simp [hy], hxy⟩
/-- a relation to an object that no tuple has any more -/
theorem Fx.strike {lo : Nat} {w : World} {fb gm : Nat} {G : List Grp} (h : Fx lo w fb gm G) {g : Grp} (hg : g ∈ G) (h0 : g.ts = []) (ty : TypeId) :
    ∃ o G', (Builtin.delete_ #[62, 30] ty #[.map (some gm), .agg (uc g.u)]).run Tryz.prog w = .ok (.tuple #[]) (setBlock w gm o) ∧ Fx lo (setBlock w gm o) fb gm G' ∧ (∀ x, x ∈ alls G' ↔ x ∈ alls G) ∧ Wn lo w (setBlock w gm o) := by
  obtain ⟨o, j, hrun, hj, hm⟩ := h.top.drop (ty := ty) key_us under_top (x := .agg (uc g.u)) (v := .map (some g.b)) (List.mem_map.2 ⟨g, hg, rfl⟩)
  obtain ⟨es, c, hgb, _⟩ := h.top.ex
  have keep : ∀ k, k ≠ gm → (setBlock w gm o).heap[k]? = w.heap[k]? := fun k hk => set_block hgb hk
  have sub : ∀ x, x ∈ G.eraseIdx j → x ∈ G := fun x hx => List.mem_of_mem_eraseIdx hx
  have hjg : ∃ g2, G[j]? = some g2 ∧ g2.b = g.b := by
    unfold topL at hj
    rw [List.getElem?_map] at hj
    obtain ⟨g2, hs, e⟩ := Option.map_eq_some_iff.1 hj
    have e1 : Value.map (some g2.b) = Value.map (some g.b) := congrArg Prod.snd e
    injection e1 with e1
    exact ⟨g2, hs, by injection e1⟩
  refine ⟨o, G.eraseIdx j, hrun, ⟨(keep fb (fun q => by have := h.box; rw [q, hgb] at this; cases this)).trans h.box, ?_, fun x hx => (h.each x (sub x hx)).same (keep _ (h.ne x (sub x hx))), fun x hx => h.obj x (sub x hx), ?_, ?_, fun x hx => h.ne x (sub x hx), ⟨h.low.1, h.low.2.1, fun x hx => h.low.2.2 x (sub x hx)⟩⟩, ?_, Wn.set h.top h.low.2.1 o⟩
  · unfold topL at hm ⊢
    rw [er_map]
    exact hm
  · intro s hs
    obtain ⟨x, hx, hsx⟩ := mem_alls.1 hs
    exact h.oks s (mem_alls.2 ⟨x, sub x hx, hsx⟩)
  · rw [er_map]
    exact h.apart.sublist (List.eraseIdx_sublist _ _)
  · intro x
    rw [mem_alls, mem_alls]
    constructor
    · rintro ⟨y, hy, hxy⟩
      exact ⟨y, sub y hy, hxy⟩
    · rintro ⟨y, hy, hxy⟩
      refine ⟨y, ?_, hxy⟩
      rw [List.mem_eraseIdx_iff_getElem?]
      obtain ⟨i, hi, e⟩ := List.getElem_of_mem hy
      refine ⟨i, ?_, by rw [List.getElem?_eq_getElem hi, e]⟩
      rintro rfl
      obtain ⟨g2, hg2, hb2⟩ := hjg
      rw [List.getElem?_eq_getElem hi, e] at hg2
      obtain rfl := Option.some.inj hg2
      have h1 := (h.each y hy)
      have h2 := (h.each g hg)
      rw [hb2] at h1
      obtain ⟨es1, c1, q1, q2, _⟩ := h1.ex
      obtain ⟨es2, c2, q3, q4, _⟩ := h2.ex
      rw [q1] at q3
      injection q3 with q3
      injection q3 with q3 _
      rw [q3, q4, h0] at q2
      have : y.ts = [] := by
        unfold tpsL at q2
        simpa using q2.symm
      rw [this] at hxy
      cases hxy
def DropPost (lo : Nat) (w : World) (fb gm : Nat) (G : List Grp) (t : Tp) (e : Ending) (w' : World) : Prop :=
  ∃ G', e = .returned (.bool (decide (t ∈ alls G))) ∧ Fx lo w' fb gm G' ∧ (∀ x, x ∈ alls G' ↔ x ∈ alls G ∧ x ≠ t) ∧ Wn lo w w'
set_option maxRecDepth 100000 in
set_option maxHeartbeats 12800000 in
theorem drop_any {lo : Nat} {w0 : World} {fb gm : Nat} {G : List Grp} (h : Fx lo w0 fb gm G) (t : Tp) (ht : TpF t) :
    Calls Tryz.prog 18 #[.pointer (some ⟨fb, 0, none⟩), .agg (tc t)] w0 (DropPost lo w0 fb gm G t) := by
  obtain ⟨w1, hw1⟩ : ∃ v, v = w0.alloc (.cells (tc t) 32) := ⟨_, rfl⟩
  obtain ⟨b, hbe⟩ : ∃ v, v = w0.heap.size := ⟨_, rfl⟩
  have b1 : Below w0.heap.size w0 w1 := by rw [hw1]; exact al _ _
  have a1 : w1.heap[b]? = some (.cells (tc t) 32 (0, 0)) := by rw [hw1, hbe]; exact heap_alloc_new w0 _
  have hb1 : b < w1.heap.size := by rw [hw1, hbe]; simp
  have hhas := has_any (h.below b1) t ht
  have HW1 := Lib.hid hw1
  have HBE := Lib.hid hbe
  have HB1 := Lib.hid b1
  have HX := Lib.hid h
  have HT := Lib.hid ht
  have HA1 := Lib.hid a1
  have HBL := Lib.hid hb1
  clear hw1 hbe b1 h ht hb1
  unfold tc at a1 hhas HW1 ⊢
  obtain ⟨d0, d1, d2, d3, d4, d5⟩ := six_at a1
  clear a1
  go_enter Tryz.func18, Tryz.ntmps18
  go_upto_region 1 with fail
  rw [← HW1.out, ← HBE.out]
  by_cases hm : t ∈ alls G
  rotate_left
  · rw [decide_eq_false hm] at hhas
    have HM := Lib.hid hm
    clear hm
    go_wp2_with fail
    (with_reducible refine hhas.mono ?_)
    clear hhas d0 d1 d2 d3 d4 d5
    rintro e w3 ⟨rfl, b3⟩
    have HP := Lib.hid (show DropPost lo w0 fb gm G t (.returned (.bool false)) w3 from ⟨G, by rw [decide_eq_false HM.out], HX.out.below (Below.step HB1.out b3), fun x => ⟨fun q => ⟨q, fun e => HM.out (e ▸ q)⟩, fun q => q.1⟩, Wn.ofBelow (Below.step HB1.out b3)⟩)
    clear b3
    go_wp2_with fail
    go_ret
    exact HP.out
  rw [decide_eq_true hm] at hhas
  have HIN := Lib.hid hm
  clear hm
  go_wp2_with fail
  (with_reducible refine hhas.mono ?_)
  clear hhas d0 d1 d2 d3 d4 d5
  rintro e w5 ⟨rfl, b5⟩
  obtain ⟨d0, d1, d2, d3, d4, d5⟩ := six_at ((b5.block b HBL.out).trans HA1.out)
  have hobj := FactsHas.object_any t w5
  unfold tc uc Tp.obj at hobj
  have HB5 := Lib.hid b5
  clear b5
  go_wp2_with fail
  (with_reducible refine hobj.mono ?_)
  clear hobj d0 d1 d2 d3 d4 d5
  rintro e w6 ⟨rfl, b6⟩
  have HB6 := Lib.hid (Below.step HB5.out b6)
  clear b6
  obtain ⟨w3, hw3⟩ : ∃ v, v = w6.alloc (.cells #[.string t.k, .string t.i, .string t.r] 30) := ⟨_, rfl⟩
  obtain ⟨ob, hob⟩ : ∃ v, v = w6.heap.size := ⟨_, rfl⟩
  have b3 : Below w6.heap.size w6 w3 := by rw [hw3]; exact al _ _
  have a3 : w3.heap[ob]? = some (.cells #[.string t.k, .string t.i, .string t.r] 30 (0, 0)) := by rw [hw3, hob]; exact heap_alloc_new w6 _
  have hob3 : ob < w3.heap.size := by rw [hw3, hob]; simp
  have HB3' := Lib.hid (Below.step HB6.out b3)
  have HOB := Lib.hid (And.intro a3 hob3)
  have HB3 := Lib.hid (show Wn lo w0 w3 from Wn.ofBelow (Below.step HB1.out HB3'.out))
  have hx3 := HX.out.below (Below.step HB1.out HB3'.out)
  clear HX
  have HX := Lib.hid hx3
  obtain ⟨g, hg, hu, hall⟩ : ∃ g ∈ G, g.u = t.obj ∧ ∀ s, s ∈ alls G → s.obj = t.obj → s ∈ g.ts := by
    rcases hx3.grp t.obj with q | ⟨_, hno⟩
    · exact q
    · exact absurd rfl (hno t HIN.out)
  have HT2 := Lib.hid (hall t HIN.out rfl)
  obtain ⟨gb, hgb⟩ : ∃ v, v = g.b := ⟨_, rfl⟩
  have HGB := Lib.hid hgb
  have HG := Lib.hid hg
  have HU := Lib.hid hu
  have HC := Lib.hid (fun (w' : World) (hw' : Below w3.heap.size w3 w') => six_at ((hw'.block b (Nat.lt_of_lt_of_le HBL.out HB3'.out.size)).trans ((HB3'.out.block b HBL.out).trans HA1.out)))
  have HF := Lib.hid (fun (w' : World) (hw' : Below w3.heap.size w3 w') => show w'.cell? ⟨fb, 0, none⟩ = some (.map (some gm)) by simp [World.cell?, (hx3.below hw').box])
  have HO := Lib.hid (fun (w' : World) (hw' : Below w3.heap.size w3 w') => three_at ((hw'.block ob HOB.out.2).trans HOB.out.1))
  have HL := Lib.hid (fun (w' : World) (hw' : Below w3.heap.size w3 w') => show (Instr.lookup 62 (.map (some gm)) (.agg #[.string t.k, .string t.i, .string t.r]) false).run Tryz.prog w' = .ok (.map (some gb)) w' by rw [HGB.out]; exact (hx3.below hw').top.look key_us under_top (List.mem_map.2 ⟨g, HG.out, by rw [HU.out]; rfl⟩) false)
  have HW3 := Lib.hid hw3
  have HOE := Lib.hid hob
  clear hw3 hob b3 a3 hob3 hx3 hgb hg hu hall
  go_upto_region 4 with fail
  rw [← HW3.out, ← HOE.out]
  have hJ0 : Below w3.heap.size w3 (World.drew w3) := (Below.refl _ _).drew
  refine wp_region_any (by kernel_rfl) ?_
  change wpAny _ _ _ _ _ _ _ (World.drew _)
  refine InvT.inv_any (fun (i : Nat) (v : Value) (w : World) => match i with | 0 => v = .pointer (some ⟨fb, 0, none⟩) | 1 => v = .pointer (some ⟨fb, 0, none⟩) | 2 => v = .pointer (some ⟨fb, 0, none⟩) | 3 => v = .map (some gm) | 4 => v = .agg #[.string t.k, .string t.i, .string t.r] | 5 => v = .map (some gb) | 6 => v = .agg #[.string t.k, .string t.i, .string t.r, .string t.u.k, .string t.u.i, .string t.u.r] | _ => True) (fun w' : World => Below w3.heap.size w3 w') _ 7 32 rfl rfl rfl (by kernel_rfl) (by kernel_rfl) hJ0 ?_ ?_ ?_ ?_
  · intro j v w w' h hb
    match j, h with
    | 0, h => exact h
    | 1, h => exact h
    | 2, h => exact h
    | 3, h => exact h
    | 4, h => exact h
    | 5, h => exact h
    | 6, h => exact h
    | 7, _ => exact trivial
    | (_ + 8), _ => exact trivial
  · skip
    refine Inv.from_cons _ _ _ _ rfl (fun _ a w hJ hF F K hK => ?_) ?_
    · have hz : a.tmps.size = 32 := hF.size
      have e0 : a.tmps[0]? = some (.pointer (some ⟨fb, 0, none⟩)) := Inv2.some_slot (by rw [hz]; exact Nat.le_of_ble_eq_true rfl) (hF.slot 0 (by kernel_rfl))
      clear F hF hz
      go_simp
      exact hK (.pointer (some ⟨fb, 0, none⟩)) _ hJ (Below.refl _ _) rfl
    refine Inv.from_cons _ _ _ _ rfl (fun _ a w hJ hF F K hK => ?_) ?_
    · have hz : a.tmps.size = 32 := hF.size
      have e12 : a.tmps[12]? = some (.pointer (some ⟨fb, 0, none⟩)) := Inv2.some_slot (by rw [hz]; exact Nat.le_of_ble_eq_true rfl) (F 0 (by kernel_rfl) 12 rfl)
      clear F hF hz
      go_simp
      exact hK (.pointer (some ⟨fb, 0, none⟩)) _ hJ (Below.refl _ _) rfl
    refine Inv.from_cons _ _ _ _ rfl (fun _ a w hJ hF F K hK => ?_) ?_
    · have hz : a.tmps.size = 32 := hF.size
      have e13 : a.tmps[13]? = some (.pointer (some ⟨fb, 0, none⟩)) := Inv2.some_slot (by rw [hz]; exact Nat.le_of_ble_eq_true rfl) (F 1 (by kernel_rfl) 13 rfl)
      clear F hF hz
      go_simp
      exact hK (.pointer (some ⟨fb, 0, none⟩)) _ hJ (Below.refl _ _) rfl
    refine Inv.from_cons _ _ _ _ rfl (fun _ a w hJ hF F K hK => ?_) ?_
    · have hz : a.tmps.size = 32 := hF.size
      have e14 : a.tmps[14]? = some (.pointer (some ⟨fb, 0, none⟩)) := Inv2.some_slot (by rw [hz]; exact Nat.le_of_ble_eq_true rfl) (F 2 (by kernel_rfl) 14 rfl)
      clear F hF hz
      have hh := HF.out _ hJ
      go_simp
      exact hK (.map (some gm)) _ hJ (Below.refl _ _) rfl
    refine Inv.from_cons _ _ _ _ rfl (fun _ a w hJ hF F K hK => ?_) ?_
    · have hz : a.tmps.size = 32 := hF.size
      have e5 : a.tmps[5]? = some (.pointer (some ⟨ob, 0, none⟩)) := Inv2.some_slot (by rw [hz]; exact Nat.le_of_ble_eq_true rfl) (hF.slot 5 (by kernel_rfl))
      clear F hF hz
      obtain ⟨d0, d1, d2⟩ := HO.out _ hJ
      go_simp
      exact hK (.agg #[.string t.k, .string t.i, .string t.r]) _ hJ (Below.refl _ _) rfl
    refine Inv.from_cons _ _ _ _ rfl (fun _ a w hJ hF F K hK => ?_) ?_
    · have hz : a.tmps.size = 32 := hF.size
      have e15 : a.tmps[15]? = some (.map (some gm)) := Inv2.some_slot (by rw [hz]; exact Nat.le_of_ble_eq_true rfl) (F 3 (by kernel_rfl) 15 rfl)
      have e16 : a.tmps[16]? = some (.agg #[.string t.k, .string t.i, .string t.r]) := Inv2.some_slot (by rw [hz]; exact Nat.le_of_ble_eq_true rfl) (F 4 (by kernel_rfl) 16 rfl)
      clear F hF hz
      have hh := HL.out _ hJ
      go_simp
      exact hK (.map (some gb)) _ hJ (Below.refl _ _) rfl
    refine Inv.from_cons _ _ _ _ rfl (fun _ a w hJ hF F K hK => ?_) ?_
    · have hz : a.tmps.size = 32 := hF.size
      have e3 : a.tmps[3]? = some (.pointer (some ⟨b, 0, none⟩)) := Inv2.some_slot (by rw [hz]; exact Nat.le_of_ble_eq_true rfl) (hF.slot 3 (by kernel_rfl))
      clear F hF hz
      obtain ⟨d0, d1, d2, d3, d4, d5⟩ := HC.out _ hJ
      go_simp
      exact hK (.agg #[.string t.k, .string t.i, .string t.r, .string t.u.k, .string t.u.i, .string t.u.r]) _ hJ (Below.refl _ _) rfl
    refine Inv.from_skip _ _ _ _ rfl ?_
    exact Inv.from_end _ _ _ _ (by decide +kernel)
  · intro o ho a w hJ hF F K hK
    injection (show some _ = some o from ho) with ho
    subst ho
    obtain ⟨f, hf⟩ : ∃ f : Nat → Value, ∀ i, a.tmps.getD i undef = f i := ⟨_, fun _ => rfl⟩
    have g0 : f 0 = (.pointer (some ⟨fb, 0, none⟩)) := (hf 0).symm.trans (hF.slot 0 (by kernel_rfl))
    have g3 : f 3 = (.pointer (some ⟨b, 0, none⟩)) := (hf 3).symm.trans (hF.slot 3 (by kernel_rfl))
    have g5 : f 5 = (.pointer (some ⟨ob, 0, none⟩)) := (hf 5).symm.trans (hF.slot 5 (by kernel_rfl))
    have g12 : f 12 = (.pointer (some ⟨fb, 0, none⟩)) := (hf 12).symm.trans (F 0 (by decide) 12 rfl)
    have g13 : f 13 = (.pointer (some ⟨fb, 0, none⟩)) := (hf 13).symm.trans (F 1 (by decide) 13 rfl)
    have g14 : f 14 = (.pointer (some ⟨fb, 0, none⟩)) := (hf 14).symm.trans (F 2 (by decide) 14 rfl)
    have g15 : f 15 = (.map (some gm)) := (hf 15).symm.trans (F 3 (by decide) 15 rfl)
    have g16 : f 16 = (.agg #[.string t.k, .string t.i, .string t.r]) := (hf 16).symm.trans (F 4 (by decide) 16 rfl)
    have g17 : f 17 = (.map (some gb)) := (hf 17).symm.trans (F 5 (by decide) 17 rfl)
    have g18 : f 18 = (.agg #[.string t.k, .string t.i, .string t.r, .string t.u.k, .string t.u.i, .string t.u.r]) := (hf 18).symm.trans (F 6 (by decide) 18 rfl)
    have ha := Frames.frame (show a.tmps.size = 32 from hF.size) hF.defers hf (l := [f 0, f 1, f 2, f 3, f 4, f 5, f 6, f 7, f 8, f 9, f 10, f 11, f 12, f 13, f 14, f 15, f 16, f 17, f 18, f 19, f 20, f 21, f 22, f 23, f 24, f 25, f 26, f 27, f 28, f 29, f 30, f 31]) rfl
    simp only [g0, g3, g5, g12, g13, g14, g15, g16, g17, g18] at ha
    clear F hF hf g0 g3 g5 g12 g13 g14 g15 g16 g17 g18
    subst ha
    have hx := HX.out.below hJ
    obtain ⟨o9, G2, g2, hrun, hfx, hmem, hg2, hu2, hb2, hwn⟩ := Fx.del hx HG.out HT2.out 0
    rw [← HGB.out] at hrun hfx hwn hb2
    unfold tc at hrun
    obtain ⟨w4, hw4⟩ : ∃ v, v = setBlock w gb o9 := ⟨_, rfl⟩
    rw [← hw4] at hrun hfx hwn
    have hWN := (HB3.out.trans (Wn.ofBelow hJ)).trans hwn
    have hOB2 : w4.heap[ob]? = some (.cells #[.string t.k, .string t.i, .string t.r] 30 (0, 0)) ∧ ob < w4.heap.size := ⟨hwn.cells ((hJ.block ob HOB.out.2).trans HOB.out.1), Nat.lt_of_lt_of_le HOB.out.2 (Nat.le_trans hJ.size hwn.size)⟩
    have hlen := fun (w' : World) (hw' : Below w4.heap.size w4 w') => ((hfx.below hw').each g2 hg2).len under_tps 3
    have hu3 := hu2.trans HU.out
    clear HOB HX HL HF HO HC HU HG
    have HOB := Lib.hid hOB2
    have HX := Lib.hid hfx
    have HAL := Lib.hid hmem
    have HG := Lib.hid hg2
    have HU := Lib.hid hu3
    have HWN := Lib.hid hWN
    have HGB2 := Lib.hid hb2
    clear HGB
    have HGB := Lib.hid hb2.symm
    rw [hb2] at hlen
    have HLEN := Lib.hid (fun (w' : World) (hw' : Below w4.heap.size w4 w') => show (Builtin.len_ #[68] 3 #[.map (some gb)]).run Tryz.prog w' = .ok (.int .i64 g2.ts.length) w' by have q := hlen w' hw'; simpa [tpsL] using q)
    have HF := Lib.hid (fun (w' : World) (hw' : Below w4.heap.size w4 w') => show w'.cell? ⟨fb, 0, none⟩ = some (.map (some gm)) by simp [World.cell?, (hfx.below hw').box])
    have HO := Lib.hid (fun (w' : World) (hw' : Below w4.heap.size w4 w') => three_at ((hw'.block ob HOB.out.2).trans HOB.out.1))
    have HL := Lib.hid (fun (w' : World) (hw' : Below w4.heap.size w4 w') => show (Instr.lookup 62 (.map (some gm)) (.agg #[.string t.k, .string t.i, .string t.r]) false).run Tryz.prog w' = .ok (.map (some gb)) w' by rw [HGB.out]; exact (hfx.below hw').top.look key_us under_top (List.mem_map.2 ⟨g2, HG.out, by rw [HU.out]; rfl⟩) false)
    clear hx hfx hmem hg2 hu2 hu3 hb2 hwn hJ hWN hOB2 hlen
    have HW4 := Lib.hid hw4
    clear hw4
    go_upto_region 5 with fail
    have hJ0 : Below w4.heap.size w4 (World.drew w4) := (Below.refl _ _).drew
    refine wp_region_any (by kernel_rfl) ?_
    change wpAny _ _ _ _ _ _ _ (World.drew _)
    refine Inv.inv_any (fun (i : Nat) (v : Value) (w : World) => match i with | 0 => v = .pointer (some ⟨fb, 0, none⟩) | 1 => v = .pointer (some ⟨fb, 0, none⟩) | 2 => v = .pointer (some ⟨fb, 0, none⟩) | 3 => v = .map (some gm) | 4 => v = .agg #[.string t.k, .string t.i, .string t.r] | 5 => v = .map (some gb) | 6 => v = .int .i64 g2.ts.length | 7 => v = .bool (((g2.ts.length : Nat) : Int) == 0) | _ => True) (fun w' : World => Below w4.heap.size w4 w') _ 8 32 rfl rfl rfl (by kernel_rfl) (by kernel_rfl) hJ0 ?_ ?_ ?_ ?_
    · intro j v w w' h hb
      match j, h with
      | 0, h => exact h
      | 1, h => exact h
      | 2, h => exact h
      | 3, h => exact h
      | 4, h => exact h
      | 5, h => exact h
      | 6, h => exact h
      | 7, h => exact h
      | (_ + 8), _ => exact trivial
    · skip
      refine Inv.from_cons _ _ _ _ rfl (fun _ a w hJ hF F K hK => ?_) ?_
      · have hz : a.tmps.size = 32 := hF.size
        have e0 : a.tmps[0]? = some (.pointer (some ⟨fb, 0, none⟩)) := Inv2.some_slot (by rw [hz]; exact Nat.le_of_ble_eq_true rfl) (hF.slot 0 (by kernel_rfl))
        clear F hF hz
        go_simp
        exact hK (.pointer (some ⟨fb, 0, none⟩)) _ hJ (Below.refl _ _) rfl
      refine Inv.from_cons _ _ _ _ rfl (fun _ a w hJ hF F K hK => ?_) ?_
      · have hz : a.tmps.size = 32 := hF.size
        have e19 : a.tmps[19]? = some (.pointer (some ⟨fb, 0, none⟩)) := Inv2.some_slot (by rw [hz]; exact Nat.le_of_ble_eq_true rfl) (F 0 (by kernel_rfl) 19 rfl)
        clear F hF hz
        go_simp
        exact hK (.pointer (some ⟨fb, 0, none⟩)) _ hJ (Below.refl _ _) rfl
      refine Inv.from_cons _ _ _ _ rfl (fun _ a w hJ hF F K hK => ?_) ?_
      · have hz : a.tmps.size = 32 := hF.size
        have e20 : a.tmps[20]? = some (.pointer (some ⟨fb, 0, none⟩)) := Inv2.some_slot (by rw [hz]; exact Nat.le_of_ble_eq_true rfl) (F 1 (by kernel_rfl) 20 rfl)
        clear F hF hz
        go_simp
        exact hK (.pointer (some ⟨fb, 0, none⟩)) _ hJ (Below.refl _ _) rfl
      refine Inv.from_cons _ _ _ _ rfl (fun _ a w hJ hF F K hK => ?_) ?_
      · have hz : a.tmps.size = 32 := hF.size
        have e21 : a.tmps[21]? = some (.pointer (some ⟨fb, 0, none⟩)) := Inv2.some_slot (by rw [hz]; exact Nat.le_of_ble_eq_true rfl) (F 2 (by kernel_rfl) 21 rfl)
        clear F hF hz
        have hh := HF.out _ hJ
        go_simp
        exact hK (.map (some gm)) _ hJ (Below.refl _ _) rfl
      refine Inv.from_cons _ _ _ _ rfl (fun _ a w hJ hF F K hK => ?_) ?_
      · have hz : a.tmps.size = 32 := hF.size
        have e5 : a.tmps[5]? = some (.pointer (some ⟨ob, 0, none⟩)) := Inv2.some_slot (by rw [hz]; exact Nat.le_of_ble_eq_true rfl) (hF.slot 5 (by kernel_rfl))
        clear F hF hz
        obtain ⟨d0, d1, d2⟩ := HO.out _ hJ
        go_simp
        exact hK (.agg #[.string t.k, .string t.i, .string t.r]) _ hJ (Below.refl _ _) rfl
      refine Inv.from_cons _ _ _ _ rfl (fun _ a w hJ hF F K hK => ?_) ?_
      · have hz : a.tmps.size = 32 := hF.size
        have e22 : a.tmps[22]? = some (.map (some gm)) := Inv2.some_slot (by rw [hz]; exact Nat.le_of_ble_eq_true rfl) (F 3 (by kernel_rfl) 22 rfl)
        have e23 : a.tmps[23]? = some (.agg #[.string t.k, .string t.i, .string t.r]) := Inv2.some_slot (by rw [hz]; exact Nat.le_of_ble_eq_true rfl) (F 4 (by kernel_rfl) 23 rfl)
        clear F hF hz
        have hh := HL.out _ hJ
        go_simp
        exact hK (.map (some gb)) _ hJ (Below.refl _ _) rfl
      refine Inv.from_cons _ _ _ _ rfl (fun _ a w hJ hF F K hK => ?_) ?_
      · have hz : a.tmps.size = 32 := hF.size
        have e24 : a.tmps[24]? = some (.map (some gb)) := Inv2.some_slot (by rw [hz]; exact Nat.le_of_ble_eq_true rfl) (F 5 (by kernel_rfl) 24 rfl)
        clear F hF hz
        have hh := HLEN.out _ hJ
        go_simp
        exact hK (.int .i64 g2.ts.length) _ hJ (Below.refl _ _) rfl
      refine Inv.from_cons _ _ _ _ rfl (fun _ a w hJ hF F K hK => ?_) ?_
      · have hz : a.tmps.size = 32 := hF.size
        have e25 : a.tmps[25]? = some (.int .i64 g2.ts.length) := Inv2.some_slot (by rw [hz]; exact Nat.le_of_ble_eq_true rfl) (F 6 (by kernel_rfl) 25 rfl)
        clear F hF hz
        go_simp
        exact hK (.bool (((g2.ts.length : Nat) : Int) == 0)) _ hJ (Below.refl _ _) rfl
      exact Inv.from_end _ _ _ _ (by decide +kernel)
    · intro o ho; exact absurd ho (by simp)
    · intro _ a w hJ hF F
      obtain ⟨f, hf⟩ : ∃ f : Nat → Value, ∀ i, a.tmps.getD i undef = f i := ⟨_, fun _ => rfl⟩
      have g0 : f 0 = (.pointer (some ⟨fb, 0, none⟩)) := (hf 0).symm.trans (hF.slot 0 (by kernel_rfl))
      have g3 : f 3 = (.pointer (some ⟨b, 0, none⟩)) := (hf 3).symm.trans (hF.slot 3 (by kernel_rfl))
      have g5 : f 5 = (.pointer (some ⟨ob, 0, none⟩)) := (hf 5).symm.trans (hF.slot 5 (by kernel_rfl))
      have g19 : f 19 = (.pointer (some ⟨fb, 0, none⟩)) := (hf 19).symm.trans (F 0 19 rfl)
      have g20 : f 20 = (.pointer (some ⟨fb, 0, none⟩)) := (hf 20).symm.trans (F 1 20 rfl)
      have g21 : f 21 = (.pointer (some ⟨fb, 0, none⟩)) := (hf 21).symm.trans (F 2 21 rfl)
      have g22 : f 22 = (.map (some gm)) := (hf 22).symm.trans (F 3 22 rfl)
      have g23 : f 23 = (.agg #[.string t.k, .string t.i, .string t.r]) := (hf 23).symm.trans (F 4 23 rfl)
      have g24 : f 24 = (.map (some gb)) := (hf 24).symm.trans (F 5 24 rfl)
      have g25 : f 25 = (.int .i64 g2.ts.length) := (hf 25).symm.trans (F 6 25 rfl)
      have g26 : f 26 = (.bool (((g2.ts.length : Nat) : Int) == 0)) := (hf 26).symm.trans (F 7 26 rfl)
      have ha := Frames.frame (show a.tmps.size = 32 from hF.size) hF.defers hf (l := [f 0, f 1, f 2, f 3, f 4, f 5, f 6, f 7, f 8, f 9, f 10, f 11, f 12, f 13, f 14, f 15, f 16, f 17, f 18, f 19, f 20, f 21, f 22, f 23, f 24, f 25, f 26, f 27, f 28, f 29, f 30, f 31]) rfl
      simp only [g0, g3, g5, g19, g20, g21, g22, g23, g24, g25, g26] at ha
      clear F hF hf g0 g3 g5 g19 g20 g21 g22 g23 g24 g25 g26
      subst ha
      by_cases hz : g2.ts = []
      rotate_left
      · have hz2 : (((g2.ts.length : Nat) : Int) == 0) = false := by simp; exact hz
        have HP := Lib.hid (show DropPost lo w0 fb gm G t (.returned (.bool true)) w from ⟨G2, by rw [decide_eq_true HIN.out], HX.out.below hJ, HAL.out, HWN.out.trans (Wn.ofBelow hJ)⟩)
        rw [hz2]
        clear hJ hz hz2
        go_wp2_with fail
        go_ret
        exact HP.out
      have hz2 : (((g2.ts.length : Nat) : Int) == 0) = true := by rw [hz]; rfl
      have HZ := Lib.hid hz
      rw [hz2]
      clear hz hz2
      have HJ := Lib.hid hJ
      clear hJ
      go_upto_region 6 with fail
      have hJ0 : Below w4.heap.size w4 (World.drew w) := HJ.out.drew
      refine wp_region_any (by kernel_rfl) ?_
      change wpAny _ _ _ _ _ _ _ (World.drew _)
      refine InvT.inv_any (fun (i : Nat) (v : Value) (w : World) => match i with | 0 => v = .pointer (some ⟨fb, 0, none⟩) | 1 => v = .pointer (some ⟨fb, 0, none⟩) | 2 => v = .pointer (some ⟨fb, 0, none⟩) | 3 => v = .map (some gm) | 4 => v = .agg #[.string t.k, .string t.i, .string t.r] | _ => True) (fun w' : World => Below w4.heap.size w4 w') _ 5 32 rfl rfl rfl (by kernel_rfl) (by kernel_rfl) hJ0 ?_ ?_ ?_ ?_
      · intro j v w w' h hb
        match j, h with
        | 0, h => exact h
        | 1, h => exact h
        | 2, h => exact h
        | 3, h => exact h
        | 4, h => exact h
        | 5, _ => exact trivial
        | (_ + 6), _ => exact trivial
      · skip
        refine Inv.from_cons _ _ _ _ rfl (fun _ a w hJ hF F K hK => ?_) ?_
        · have hz : a.tmps.size = 32 := hF.size
          have e0 : a.tmps[0]? = some (.pointer (some ⟨fb, 0, none⟩)) := Inv2.some_slot (by rw [hz]; exact Nat.le_of_ble_eq_true rfl) (hF.slot 0 (by kernel_rfl))
          clear F hF hz
          go_simp
          exact hK (.pointer (some ⟨fb, 0, none⟩)) _ hJ (Below.refl _ _) rfl
        refine Inv.from_cons _ _ _ _ rfl (fun _ a w hJ hF F K hK => ?_) ?_
        · have hz : a.tmps.size = 32 := hF.size
          have e27 : a.tmps[27]? = some (.pointer (some ⟨fb, 0, none⟩)) := Inv2.some_slot (by rw [hz]; exact Nat.le_of_ble_eq_true rfl) (F 0 (by kernel_rfl) 27 rfl)
          clear F hF hz
          go_simp
          exact hK (.pointer (some ⟨fb, 0, none⟩)) _ hJ (Below.refl _ _) rfl
        refine Inv.from_cons _ _ _ _ rfl (fun _ a w hJ hF F K hK => ?_) ?_
        · have hz : a.tmps.size = 32 := hF.size
          have e28 : a.tmps[28]? = some (.pointer (some ⟨fb, 0, none⟩)) := Inv2.some_slot (by rw [hz]; exact Nat.le_of_ble_eq_true rfl) (F 1 (by kernel_rfl) 28 rfl)
          clear F hF hz
          go_simp
          exact hK (.pointer (some ⟨fb, 0, none⟩)) _ hJ (Below.refl _ _) rfl
        refine Inv.from_cons _ _ _ _ rfl (fun _ a w hJ hF F K hK => ?_) ?_
        · have hz : a.tmps.size = 32 := hF.size
          have e29 : a.tmps[29]? = some (.pointer (some ⟨fb, 0, none⟩)) := Inv2.some_slot (by rw [hz]; exact Nat.le_of_ble_eq_true rfl) (F 2 (by kernel_rfl) 29 rfl)
          clear F hF hz
          have hh := HF.out _ hJ
          go_simp
          exact hK (.map (some gm)) _ hJ (Below.refl _ _) rfl
        refine Inv.from_cons _ _ _ _ rfl (fun _ a w hJ hF F K hK => ?_) ?_
        · have hz : a.tmps.size = 32 := hF.size
          have e5 : a.tmps[5]? = some (.pointer (some ⟨ob, 0, none⟩)) := Inv2.some_slot (by rw [hz]; exact Nat.le_of_ble_eq_true rfl) (hF.slot 5 (by kernel_rfl))
          clear F hF hz
          obtain ⟨d0, d1, d2⟩ := HO.out _ hJ
          go_simp
          exact hK (.agg #[.string t.k, .string t.i, .string t.r]) _ hJ (Below.refl _ _) rfl
        refine Inv.from_skip _ _ _ _ rfl ?_
        exact Inv.from_end _ _ _ _ (by decide +kernel)
      · intro o ho a w hJ hF F K hK
        injection (show some _ = some o from ho) with ho
        subst ho
        obtain ⟨f, hf⟩ : ∃ f : Nat → Value, ∀ i, a.tmps.getD i undef = f i := ⟨_, fun _ => rfl⟩
        have g0 : f 0 = (.pointer (some ⟨fb, 0, none⟩)) := (hf 0).symm.trans (hF.slot 0 (by kernel_rfl))
        have g3 : f 3 = (.pointer (some ⟨b, 0, none⟩)) := (hf 3).symm.trans (hF.slot 3 (by kernel_rfl))
        have g5 : f 5 = (.pointer (some ⟨ob, 0, none⟩)) := (hf 5).symm.trans (hF.slot 5 (by kernel_rfl))
        have g27 : f 27 = (.pointer (some ⟨fb, 0, none⟩)) := (hf 27).symm.trans (F 0 (by decide) 27 rfl)
        have g28 : f 28 = (.pointer (some ⟨fb, 0, none⟩)) := (hf 28).symm.trans (F 1 (by decide) 28 rfl)
        have g29 : f 29 = (.pointer (some ⟨fb, 0, none⟩)) := (hf 29).symm.trans (F 2 (by decide) 29 rfl)
        have g30 : f 30 = (.map (some gm)) := (hf 30).symm.trans (F 3 (by decide) 30 rfl)
        have g31 : f 31 = (.agg #[.string t.k, .string t.i, .string t.r]) := (hf 31).symm.trans (F 4 (by decide) 31 rfl)
        have ha := Frames.frame (show a.tmps.size = 32 from hF.size) hF.defers hf (l := [f 0, f 1, f 2, f 3, f 4, f 5, f 6, f 7, f 8, f 9, f 10, f 11, f 12, f 13, f 14, f 15, f 16, f 17, f 18, f 19, f 20, f 21, f 22, f 23, f 24, f 25, f 26, f 27, f 28, f 29, f 30, f 31]) rfl
        simp only [g0, g3, g5, g27, g28, g29, g30, g31] at ha
        clear F hF hf g0 g3 g5 g27 g28 g29 g30 g31
        subst ha
        have hx := HX.out.below hJ
        obtain ⟨o9, G9, hrun, hfx, hmem, hwn⟩ := Fx.strike hx HG.out HZ.out 0
        have HP := Lib.hid (show DropPost lo w0 fb gm G t (.returned (.bool true)) (setBlock w gm o9) from ⟨G9, by rw [decide_eq_true HIN.out], hfx, fun x => (hmem x).trans (HAL.out x), ((HWN.out).trans (Wn.ofBelow hJ)).trans hwn⟩)
        rw [HU.out] at hrun
        unfold uc Tp.obj at hrun
        clear hx hfx hmem hwn hJ
        go_wp2_with fail
        go_ret
        exact HP.out
      · intro hq; exact absurd hq (by decide +kernel)
  · intro hq; exact absurd hq (by decide +kernel)
end Go.Proofs.YtilcnhdfdgmekaaGreat.FactsDrop
namespace Go.Proofs.YtilcnhdfdgmekaaGreat.FactsNew
open Go.RowKit Base KeyPlain TuplePlain TupleRef TupleSpec TupleCut FMap FactsPlain FactsMem FactsHas FactsPut

/-- tuples in a row -/
def TRow (w : World) (A : Option Addr) (l : List Tp) : Prop :=
  ∀ i (hi : i < l.length), ∃ g o, A = some ⟨g, o, none⟩ ∧ g < w.heap.size ∧ ∀ j v, (tc l[i]).toList[j]? = some v → w.cell? ⟨g, o + i * 6 + j, none⟩ = some v
theorem TRow.same {w w' : World} {A : Option Addr} {l : List Tp} (h : TRow w A l) (hs : w.heap.size ≤ w'.heap.size) (hb : ∀ g o, A = some ⟨g, o, none⟩ → g < w.heap.size → w'.heap[g]? = w.heap[g]?) : TRow w' A l := fun i hi => by
  obtain ⟨g, o, hA, hg, hc⟩ := h i hi
  exact ⟨g, o, hA, Nat.lt_of_lt_of_le hg hs, fun j v hv => (World.cell?_of_block (w := w) (hb g o hA hg)).trans (hc j v hv)⟩
theorem TRow.below {w w' : World} {A : Option Addr} {l : List Tp} (h : TRow w A l) (hb : Below w.heap.size w w') : TRow w' A l := h.same hb.size fun g _ _ hg => hb.block g hg
theorem cells_of {w : World} {p : Addr} {v : Value} (h : w.cell? p = some v) : ∀ es c, w.heap[p.block]? ≠ some (.map es c) := fun es c e => by
  simp [World.cell?, e] at h
theorem TRow.wn {lo : Nat} {w w' : World} {A : Option Addr} {l : List Tp} (h : TRow w A l) (hw : Wn lo w w') : TRow w' A l := fun i hi => by
  obtain ⟨g, o, hA, hg, hc⟩ := h i hi
  have hm := cells_of (hc 0 (.string l[i].k) rfl)
  exact ⟨g, o, hA, Nat.lt_of_lt_of_le hg hw.size, fun j v hv => (World.cell?_of_block (w := w) (hw.block g hg (.inr hm))).trans (hc j v hv)⟩
theorem idx_tp {A : Option Addr} {g o n c i : Nat} (hA : A = some ⟨g, o, none⟩) (hi : i < n) (w : World) : (Instr.indexAt 22 (.slice A n c) (.int .i64 (i : Int))).run Tryz.prog w = .ok (.pointer (some ⟨g, o + i * 6, none⟩)) w := by
  subst hA
  have h2 : (i : Int) < n := by omega
  go_simp
theorem six_of {w : World} {g o : Nat} {t : Tp} (h : ∀ j v, (tc t).toList[j]? = some v → w.cell? ⟨g, o + j, none⟩ = some v) :
    w.cell? ⟨g, o, none⟩ = some (.string t.k) ∧ w.cell? ⟨g, o + 1, none⟩ = some (.string t.i) ∧ w.cell? ⟨g, o + 2, none⟩ = some (.string t.r) ∧ w.cell? ⟨g, o + 3, none⟩ = some (.string t.u.k) ∧ w.cell? ⟨g, o + 4, none⟩ = some (.string t.u.i) ∧ w.cell? ⟨g, o + 5, none⟩ = some (.string t.u.r) :=
  ⟨h 0 _ rfl, h 1 _ rfl, h 2 _ rfl, h 3 _ rfl, h 4 _ rfl, h 5 _ rfl⟩
theorem fx_made (w : World) : Fx w.heap.size ((w.alloc (.map #[] 0)).alloc (.cells #[.map (some w.heap.size)] 64)) (w.heap.size + 1) w.heap.size [] where
  box := new2 w _ _
  top := (Mp.made w).below (al (w.alloc (.map #[] 0)) _) (by simp)
  each := by simp
  obj := by simp
  oks := by simp [alls]
  apart := by simp
  ne := by simp
  low := ⟨by omega, by omega, by simp⟩
theorem make_top (w : World) : (Instr.makeMap 62 none).run Tryz.prog w = .ok (.map (some w.heap.size)) (w.alloc (.map #[] 0)) := rfl
def NewPost (w0 : World) (l : List Tp) (e : Ending) (w' : World) : Prop :=
  ∃ fb gm G, e = .returned (.pointer (some ⟨fb, 0, none⟩)) ∧ Fx w0.heap.size w' fb gm G ∧ (∀ x, x ∈ alls G ↔ x ∈ l ∧ x.ok = true) ∧ Below w0.heap.size w0 w'
set_option maxRecDepth 100000 in
set_option maxHeartbeats 6400000 in
theorem new_any {w0 : World} {A : Option Addr} {c : Nat} (l : List Tp) (hl : l.length < 4611686018427387904) (hr : TRow w0 A l) (hT : ∀ t ∈ l, TpF t) :
    Calls Tryz.prog 9 #[.slice A l.length c] w0 (NewPost w0 l) := by
  have hfx := fx_made w0
  obtain ⟨w1, hw1⟩ : ∃ v, v = (w0.alloc (.map #[] 0)).alloc (.cells #[.map (some w0.heap.size)] 64) := ⟨_, rfl⟩
  obtain ⟨gm, hgm⟩ : ∃ v, v = w0.heap.size := ⟨_, rfl⟩
  obtain ⟨fb, hfb⟩ : ∃ v, v = gm + 1 := ⟨_, rfl⟩
  have b1 : Below w0.heap.size w0 w1 := by rw [hw1]; exact al2 _ _ _
  rw [← hw1, ← hgm, ← hfb] at hfx
  have hr1 := hr.below b1
  rw [← hgm] at hw1 b1
  have HW1 := Lib.hid hw1
  have HGM := Lib.hid hgm
  have HFB := Lib.hid hfb
  have HB1 := Lib.hid b1
  have HR := Lib.hid hr1
  have HT := Lib.hid hT
  have HFX := Lib.hid hfx
  have HSZ := Lib.hid b1.size
  obtain ⟨n, hn⟩ : ∃ v, v = l.length := ⟨_, rfl⟩
  rw [← hn]
  rw [← hn] at hl
  have HN := Lib.hid hn
  clear hw1 hfb b1 hr hr1 hT hfx hn hgm
  go_enter Tryz.func9, Tryz.ntmps9
  have hmk := make_top w0
  go_upto_region 2 with fail
  clear hmk
  rw [← HGM.out, ← HFB.out, ← HW1.out]
  go_wp2_with fail
  go_loopw [11] (fun vi wr => ∃ (i : Nat) (G : List Grp), vi = .int .i64 i ∧ i ≤ n ∧ Fx gm wr fb gm G ∧ (∀ x, x ∈ alls G ↔ x ∈ l.take i ∧ x.ok = true) ∧ Wn gm w1 wr) (fun vi _ => n - (intOf vi).toNat)
  case atStart => exact ⟨0, [], rfl, by omega, HFX.out, by simp [alls], Wn.refl _ _⟩
  case round =>
    obtain ⟨i, G, rfl, hin, hfx, hmem, hwn⟩ := hrel
    have HX := Lib.hid hfx
    have HM := Lib.hid hmem
    have HWN := Lib.hid hwn
    clear hfx hmem hwn
    by_cases hlt : i < n
    · have hil : i < l.length := by rw [← HN.out]; exact hlt
      obtain ⟨g, o, hA, hg, hc⟩ := (HR.out.wn HWN.out) i hil
      obtain ⟨d0, d1, d2, d3, d4, d5⟩ := six_of hc
      have hidx := idx_tp (n := n) (c := c) hA hlt
      obtain ⟨t, ht⟩ : ∃ v, v = l[i] := ⟨_, rfl⟩
      rw [← ht] at d0 d1 d2 d3 d4 d5
      have htl : t ∈ l := by rw [ht]; exact List.getElem_mem hil
      obtain ⟨w2, hw2⟩ : ∃ v, v = wr.alloc (.cells #[.string t.k, .string t.i, .string t.r, .string t.u.k, .string t.u.i, .string t.u.r] 32) := ⟨_, rfl⟩
      have b2 : Below wr.heap.size wr w2 := by rw [hw2]; exact al _ _
      have a2 : w2.heap[wr.heap.size]? = some (.cells #[.string t.k, .string t.i, .string t.r, .string t.u.k, .string t.u.i, .string t.u.r] 32 (0, 0)) := by rw [hw2]; exact heap_alloc_new wr _
      obtain ⟨b, hb⟩ : ∃ v, v = wr.heap.size := ⟨_, rfl⟩
      rw [← hb] at a2
      obtain ⟨e0, e1, e2, e3, e4, e5⟩ := six_at a2
      have hput := put_any (HX.out.below b2) (by have := HSZ.out; have := HWN.out.size; have := b2.size; have := HGM.out; omega) t (HT.out t htl)
      unfold tc at hput
      have HW2 := Lib.hid hw2
      have HBE := Lib.hid hb
      have HB2 := Lib.hid b2
      have HTE := Lib.hid (show l[i]? = some t by rw [ht]; exact List.getElem?_eq_getElem hil)
      have HLT := Lib.hid hlt
      clear hc hA htl hw2 hb b2 a2 ht hil hg
      go_upto_region 5 with fail
      rw [← HW2.out, ← HBE.out]
      clear d0 d1 d2 d3 d4 d5 hidx
      go_wp2_with fail
      (with_reducible refine hput.mono ?_)
      clear hput e0 e1 e2 e3 e4 e5
      rintro e w3 ⟨G', rfl, hfx, hmem, hwn⟩
      have HX3 := Lib.hid hfx
      have HM3 := Lib.hid hmem
      have HW3 := Lib.hid ((HWN.out.trans (Wn.ofBelow HB2.out)).trans hwn)
      clear hfx hmem hwn
      go_wp2_with fail
      go_roundw
      case rel =>
        refine ⟨i + 1, G', by go_num, by have := HLT.out; omega, HX3.out, fun x => ?_, HW3.out⟩
        rw [HM3.out x, HM.out x, List.take_add_one, HTE.out, Option.toList_some, List.mem_append, List.mem_singleton]
        constructor
        · rintro (⟨h1, h2⟩ | ⟨rfl, h2⟩)
          · exact ⟨.inl h1, h2⟩
          · exact ⟨.inr rfl, h2⟩
        · rintro ⟨h1 | rfl, h2⟩
          · exact .inl ⟨h1, h2⟩
          · exact .inr ⟨rfl, h2⟩
      case measure => have := HLT.out; simp [intOf]; omega
    · go_wp2_with fail
      go_ret
      have hi : i = l.length := by rw [← HN.out]; omega
      have hm := HM.out
      rw [hi, List.take_length] at hm
      exact ⟨fb, gm, G, rfl, by rw [← HGM.out]; exact HX.out, hm, by rw [← HGM.out]; exact HB1.out.trans (HWN.out.below (by rw [HGM.out]; exact HSZ.out))⟩
end Go.Proofs.YtilcnhdfdgmekaaGreat.FactsNew
