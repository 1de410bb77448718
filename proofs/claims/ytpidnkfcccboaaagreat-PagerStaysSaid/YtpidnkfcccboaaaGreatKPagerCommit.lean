/- The contract of the pager's Commit. -/
import Derived.Test.YtpidnkfcccboaaaGreatKPagerTellGood
import Derived.Test.YtpidnkfcccboaaaGreatKSuperTold
namespace Go.Proofs.YtpidnkfcccboaaaGreat.PagerCode
open Go.RowKit Base PagePlain PageSmall FreePlain FreeMem FreePages SuperPlain SuperRefCheck PagerPlain PagerTold PagerNum PagerSpec PagerTellP SumOf DiskPlain DiskMem DiskSmall PagerMem PagerDisk Go.Maps

/-- a box of a super that is not yet told, new -/
def BoxZ (lo : Nat) (v : Value) (w : World) : Prop := ∃ b, v = .pointer (some ⟨b, 0, none⟩) ∧ lo ≤ b ∧ SuperSpec.Bs w b ⟨0, 0, 0, 0⟩
theorem BoxZ.below {lo : Nat} {v : Value} {w w' : World} (h : BoxZ lo v w) (hb : Below w.heap.size w w') : BoxZ lo v w' := by
 obtain ⟨b, e, hl, hz⟩ := h
 exact ⟨b, e, hl, At.same hz (hb.block b (At.lt hz))⟩
theorem head_getD (c : List Int) : c.getD 0 0 = c.headD 0 := by cases c <;> rfl
theorem told_rdw {R : PS} {c : List Int} {y : Sp} (hn : c.Nodup) (q : Int) : R.told c y q = if q = y.ep % 2 then sbytes y else rdw y.ep c R.fl R.rd c.length q := by
 unfold PS.told
 by_cases h : q = y.ep % 2
 ·rw [if_pos h, if_pos h]
 ·rw [if_neg h, if_neg h, rdw_at hn c.length (Nat.le_refl _)]
  cases hi : c.idxOf? q with
  | none => rfl
  | some i =>
   simp only
   obtain ⟨h1, _⟩ := List.idxOf?_eq_some_iff.1 hi
   rw [if_pos h1]
section
variable {W w w' : World} {p d g mp : Nat} {S : DS} {P P' : PS} {X Y G : Blks} {m m' : Int} {nn : Nat} {FD : Blks} {A B C : Option Addr} {a b c : Nat}
theorem t4 (w : World) (bx : Nat) (x0 x1 x2 x3 : Value) : Turn (fun i => i = bx) w ((((w.setCell ⟨bx, 0, none⟩ x0).setCell ⟨bx, 1, none⟩ x1).setCell ⟨bx, 2, none⟩ x2).setCell ⟨bx, 3, none⟩ x3) :=
 ((((Turn.refl (fun i => i = bx) w).set ⟨bx, 0, none⟩ (Or.inr rfl) x0).set ⟨bx, 1, none⟩ (Or.inr rfl) x1).set ⟨bx, 2, none⟩ (Or.inr rfl) x2).set ⟨bx, 3, none⟩ (Or.inr rfl) x3
theorem cr_plus (h : Cr w p d g mp S P X m nn FD A B C a b c) (h' : Cr w' p d g mp S P X m nn FD A B C a b c) (hs : w.heap.size ≤ w'.heap.size) : Cr w' p d g mp S P (Plus X w w') m nn FD A B C a b c := by
 obtain ⟨n, n0, n1, hr⟩ := h.su
 have hp := h.st.lt
 have hg := Ready.lt hr
 have hm := h.ms.lt
 have row : ∀ {A : Option Addr} {vs : List Value}, RowP w (Out p g mp FD X) A vs → ∀ i, w.heap.size ≤ i → Off A vs i := fun q i hi k v hv ad e => by
  obtain ⟨ad', e1, e2, e3, e4⟩ := q k v hv
  rw [e] at e1
  injection e1 with e1
  subst e1
  omega
 refine h'.grow fun i hi => ?_
 rcases hi with hi | ⟨hi, hl⟩
 ·exact ⟨Nat.lt_of_lt_of_le (h.xl i hi) hs, Or.inl hi⟩
 ·exact ⟨hl, Or.inr ⟨fun z => by have := (h.nf i z).1; omega, by omega, by omega, by omega, row h.ra i hi, row h.rb i hi, row h.rc i hi⟩⟩
set_option maxRecDepth 100000 in
set_option maxHeartbeats 25600000 in
theorem commit_any (h : Cr W p d g mp S P X m nn FD A B C a b c) (ha : Agree S P) (hf : Fine P m) (root : Int) (_ : In root) : Calls Tryz.prog 29 #[.pointer (some ⟨p, 0, none⟩), .int .i64 root] W fun e w' =>
  e = .returned (.int .i64 (P.commit root).2) ∧ (∃ S', Cw w' p d g mp S' (P.commit root).1 X (m + 800000) ∧ Agree S' (P.commit root).1) ∧ Turn (Not X) W w' := by
 have hi := hf.inv
 have i1 := hi.len
 have i2 := hi.most
 have i3 := hf.few
 have i4 := hi.xg
 have i5 := hi.xp
 have i6 := hi.ep
 have i7 := hf.ep
 have i8 := hf.m1
 have i9 := few_free hi
 have hiu := inUse_any h hi.rise (by omega) root
 have HB := Lib.hid (fun (w1 : World) (b1 : Below W.heap.size W w1) => h.below b1)
 have HAG := Lib.hid ha
 have HFN := Lib.hid hf
 by_cases hr : root = 0 ∨ P.there root
 rotate_left
 ·have hz : root ≠ 0 := fun z => hr (Or.inl z)
  have ht : ¬ P.there root := fun z => hr (Or.inr z)
  have HEND := Lib.hid (show P.commit root = (P, 81) by unfold PS.commit; rw [if_pos ⟨hz, ht⟩])
  have hzb : (root != 0) = true := by simpa using hz
  rw [decide_eq_false ht] at hiu
  clear h ha hi i1 i2 i4 i9 hr hz ht hf
  go_enter Tryz.func29, Tryz.ntmps29
  go_wp2_with fail
  (with_reducible refine hiu.mono ?_)
  clear hiu
  rintro e w1 ⟨rfl, b1⟩
  have H1 := Lib.hid ((HB.out _ b1).up (show m ≤ m + 800000 by omega))
  have T1 := Lib.hid (show Turn (Not X) W w1 from Turn.ofBelow b1)
  clear b1
  go_wp2_with fail
  go_ret
  exact ⟨by rw [HEND.out]; rfl, ⟨_, ⟨_, _, _, _, _, _, _, _, by rw [HEND.out]; exact H1.out⟩, by rw [HEND.out]; exact HAG.out⟩, T1.out⟩
 have hc : ¬ (root ≠ 0 ∧ ¬ P.there root) := fun ⟨q, z⟩ => hr.elim q z
 obtain ⟨R, ds, bb, ht⟩ : ∃ R c b, takes (P.freed.fl.length + 1) P.freed [] = (R, c, b) := ⟨_, _, _, rfl⟩
 have hcm : P.commit root = match (R, ds, bb) with
  | (Q, _, false) => ({ P with len := Q.len }.abort, 82)
  | (Q, c, true) => let y : Sp := ⟨P.x.ep + 1, root, c.headD 0, Q.pg⟩
   ({ Q with rd := Q.told c y, x := y, ch := c, nw := [], od := y.ep, tf := Q.fl }, 0) := by
  unfold PS.commit
  rw [if_neg hc, ht]
  rfl
 have hstart : ∀ w1, Below W.heap.size W w1 → Cr w1 p d g mp S P X m nn FD A B C a b c := fun w1 b1 => h.below b1
 have hmany := takes_many _ hi.freed ht
 cases bb with
 | false =>
  have HEND := Lib.hid (show P.commit root = ({ P with len := R.len }.abort, 82) from hcm)
  have HLEN := Lib.hid (show P.len ≤ R.len from hmany.kept.len)
  have HXG := Lib.hid i4
  have HTF := Lib.hid (fun (w1 : World) (b1 : Below W.heap.size W w1) => tellFree_full (hstart w1 b1) ha hf ht)
  clear h ha hi i1 i2 i4 i9 hc hcm ht hstart hmany hf
  by_cases hz : root = 0
  ·have hzb : (root != 0) = false := by simpa using hz
   clear hiu hz
   go_enter Tryz.func29, Tryz.ntmps29
   go_upto_region 3 with fail
   obtain ⟨w1, hw1⟩ : ∃ v, v = W := ⟨_, rfl⟩
   rw [← hw1]
   have b1 : Below W.heap.size W w1 := by rw [hw1]; exact Below.refl _ _
   clear hw1 hzb
   have hcall := HTF.out w1 b1
   have B1 := Lib.hid b1
   clear b1
   go_wp2_with fail
   (with_reducible refine hcall.mono ?_)
   clear hcall
   rintro e w2 ⟨rfl, ⟨V, ⟨nn2, F2, A2, B2, C2, a2, b2, c2, h2⟩, v1, v2, v3, v4⟩, t2⟩
   have hab := abort_any h2
   have T2 := Lib.hid ((Turn.ofBelow B1.out).step t2)
   have HVE := Lib.hid (And.intro v1 (And.intro v2 (And.intro v3 v4)))
   clear h2 t2 v1 v2 v3 v4
   go_wp2_with fail
   (with_reducible refine hab.mono ?_)
   clear hab
   rintro e w3 ⟨rfl, h3, t3⟩
   have H3 := Lib.hid (h3.up (show m + 700000 ≤ m + 800000 by omega))
   have T3 := Lib.hid (T2.out.step t3)
   clear h3 t3
   go_wp2_with fail
   go_ret
   refine ⟨by rw [HEND.out]; rfl, ⟨S, ⟨_, _, _, _, _, _, _, _, by rw [HEND.out]; exact H3.out.as (by show P.x.pages = V.x.pages; rw [HVE.out.1]) HVE.out.1.symm HVE.out.2.2.1.symm HVE.out.2.1.symm rfl HVE.out.2.2.2.symm HVE.out.2.2.1.symm⟩, ?_⟩, T3.out⟩
   rw [HEND.out]
   exact ⟨HAG.out.most, HAG.out.live, Int.le_trans HXG.out HAG.out.pg, Int.le_trans HAG.out.len HLEN.out, HAG.out.rd, HAG.out.rz⟩
  ·have hzb : (root != 0) = true := by simpa using hz
   rw [decide_eq_true (hr.elim (fun z => absurd z hz) id)] at hiu
   clear hz
   go_enter Tryz.func29, Tryz.ntmps29
   go_upto_region 3 with ((with_reducible refine hiu.mono ?_); clear hiu; rintro e w1 ⟨rfl, b1⟩)
   clear hzb
   have hcall := HTF.out w1 b1
   have B1 := Lib.hid b1
   clear b1
   go_wp2_with fail
   (with_reducible refine hcall.mono ?_)
   clear hcall
   rintro e w2 ⟨rfl, ⟨V, ⟨nn2, F2, A2, B2, C2, a2, b2, c2, h2⟩, v1, v2, v3, v4⟩, t2⟩
   have hab := abort_any h2
   have T2 := Lib.hid ((Turn.ofBelow B1.out).step t2)
   have HVE := Lib.hid (And.intro v1 (And.intro v2 (And.intro v3 v4)))
   clear h2 t2 v1 v2 v3 v4
   go_wp2_with fail
   (with_reducible refine hab.mono ?_)
   clear hab
   rintro e w3 ⟨rfl, h3, t3⟩
   have H3 := Lib.hid (h3.up (show m + 700000 ≤ m + 800000 by omega))
   have T3 := Lib.hid (T2.out.step t3)
   clear h3 t3
   go_wp2_with fail
   go_ret
   refine ⟨by rw [HEND.out]; rfl, ⟨S, ⟨_, _, _, _, _, _, _, _, by rw [HEND.out]; exact H3.out.as (by show P.x.pages = V.x.pages; rw [HVE.out.1]) HVE.out.1.symm HVE.out.2.2.1.symm HVE.out.2.1.symm rfl HVE.out.2.2.2.symm HVE.out.2.2.1.symm⟩, ?_⟩, T3.out⟩
   rw [HEND.out]
   exact ⟨HAG.out.most, HAG.out.live, Int.le_trans HXG.out HAG.out.pg, Int.le_trans HAG.out.len HLEN.out, HAG.out.rd, HAG.out.rz⟩
 | true =>
  have hcom : Com P (P.commit root).1 root R ds := ⟨hr, hmany, takes_fit _ (by simp; omega) hi.freed ht, by rw [hcm]⟩
  have htold := hcom.told hi hf.told (by omega)
  have hchn := hcom.chain hi
  have HEND := Lib.hid (show P.commit root = ({ R with rd := R.told ds ⟨P.x.ep + 1, root, ds.headD 0, R.pg⟩, x := ⟨P.x.ep + 1, root, ds.headD 0, R.pg⟩, ch := ds, nw := [], od := P.x.ep + 1, tf := R.fl }, 0) from hcm)
  have hoky : Ok ⟨P.x.ep + 1, root, ds.headD 0, R.pg⟩ := by have := htold.ok; rw [HEND.out] at this; exact this
  have hRx := hmany.kept.x
  have hRm := hmany.kept.most
  have hRr := hmany.kept.rd
  have hRp := hmany.kept.pg
  have HTG := Lib.hid (fun (w1 : World) (b1 : Below W.heap.size W w1) => tellFree_good (hstart w1 b1) ha hf ht)
  have hdl : ds.length ≤ 100000 := by
   have h1 := hchn.1.length_le_of_subset (l₂ := FreeCov.rng (R.pg - 2).toNat) fun n hn => FreeCov.mem_rng.2 ⟨by have := (hchn.2 n hn).1; omega, by have := (hchn.2 n hn).2.1; omega⟩
   rw [FreeCov.len_rng] at h1
   have a := hmany.inv.len
   have b := hmany.inv.most
   have c : R.most ≤ 4096 := hmany.inv.m2
   omega
  obtain ⟨y, hy⟩ : ∃ y : Sp, y = ⟨P.x.ep + 1, root, ds.headD 0, R.pg⟩ := ⟨_, rfl⟩
  rw [← hy] at hoky HEND
  have HY := Lib.hid (show sv (next P.x root (ds.headD 0) R.pg) = sv y by rw [hy]; rfl)
  have HYE := Lib.hid (show y.ep = P.x.ep + 1 ∧ y.pages = R.pg by rw [hy]; exact ⟨rfl, rfl⟩)
  have HOK := Lib.hid hoky
  have HND := Lib.hid hchn.1
  have HRR := Lib.hid (And.intro hRm (And.intro hRr hRp))
  have HE0 := Lib.hid (show 0 ≤ P.x.ep by omega)
  have HE1 := Lib.hid (show P.x.ep ≤ 4294967295 by omega)
  have HDL := Lib.hid hdl
  have HX2 := Lib.hid (show 2 ≤ P.pg by omega)
  have HXL := Lib.hid h.xl
  obtain ⟨hd, hhd⟩ : ∃ z, z = ds.headD 0 := ⟨_, rfl⟩
  have HHD := Lib.hid (show ds.getD 0 0 = hd by rw [hhd, head_getD])
  rw [← hhd] at HY
  obtain ⟨pg, hpg⟩ : ∃ z, z = R.pg := ⟨_, rfl⟩
  have HPG := Lib.hid (show ({ P with fl := R.fl, pg := R.pg } : PS).pg = pg from hpg.symm)
  rw [← hpg] at HY
  have HPG2 := Lib.hid hpg
  clear h ha hi i1 i2 i4 i5 i9 hc hcm ht hstart hmany hcom htold hchn hoky hy hRx hRm hRr hRp hf hdl hhd hpg
  by_cases hz : root = 0
  ·have hzb : (root != 0) = false := by simpa using hz
   clear hiu hz
   go_enter Tryz.func29, Tryz.ntmps29
   go_upto_region 3 with fail
   obtain ⟨w1, hw1⟩ : ∃ v, v = W := ⟨_, rfl⟩
   rw [← hw1]
   have b1 : Below W.heap.size W w1 := by rw [hw1]; exact Below.refl _ _
   clear hw1 hzb
   have hcall := HTG.out w1 b1
   have B1 := Lib.hid b1
   clear b1
   go_wp2_with fail
   (with_reducible refine hcall.mono ?_)
   clear hcall
   rintro e w5 ⟨Kc, ck, S2, Y, rfl, ⟨nn2, F2, A2, B2, C2, a2, b2, c2, h5⟩, hYX, rK, hck, hag, t5⟩
   have HYX0 := Lib.hid hYX
   have HA2 := Lib.hid hag
   have T5 := Lib.hid ((Turn.ofBelow B1.out).step t5)
   clear t5 hYX hag
   obtain ⟨nd, hnd⟩ : ∃ z, z = ds.length := ⟨_, rfl⟩
   rw [← hnd] at hck ⊢
   have HCK := Lib.hid hck
   have HND2 := Lib.hid hnd
   clear hnd hck
   generalize hV : ({ P with fl := R.fl, pg := R.pg } : PS) = V at h5
   have hVx : V.x = P.x := by rw [← hV]
   have hVp : V.pg = pg := by rw [← hV]; exact HPG.out
   have HVF := Lib.hid (show V.fl = R.fl by rw [← hV])
   have HVV := Lib.hid hV
   clear hV
   obtain ⟨m2, hm2⟩ : ∃ z, z = m + 700000 := ⟨_, rfl⟩
   rw [← hm2] at h5
   have HM2 := Lib.hid (And.intro hm2 i8)
   clear hm2 i8
   have HCE := Lib.hid (fun (w' : World) (hb : Below w5.heap.size w5 w') => by
    have q := pgc (h5.below hb).st
    have q1 := q.2.1
    have q2 := q.1.2.2
    rw [hVx] at q1
    rw [hVp] at q2
    exact And.intro q1 q2)
   have H5 := Lib.hid h5
   have RK := Lib.hid rK
   clear h5 rK hVx hVp
   go_upto_region 7 with fail
   have hJ0 : Below w5.heap.size w5 (World.drew w5) := (Below.refl _ _).drew
   refine wp_region_any (by kernel_rfl) ?_
   change wpAny _ _ _ _ _ _ _ (World.drew _)
   refine Inv.inv_any (fun (i : Nat) (v : Value) (w : World) => match i with | 0 => v = .pointer (some ⟨p, 0, none⟩) | 1 => v = .pointer (some ⟨p, 0, none⟩) | 2 => v = .pointer (some ⟨p, 3, none⟩) | 3 => v = .agg #[.int .i64 P.x.ep, .int .i64 P.x.root, .int .i64 P.x.free, .int .i64 P.x.pages] | 4 => v = .int .i64 root | 5 => v = .slice Kc nd ck | 6 => v = .int .i64 hd | 7 => v = .pointer (some ⟨p, 0, none⟩) | 8 => v = .pointer (some ⟨p, 0, none⟩) | 9 => v = .pointer (some ⟨p, 0, none⟩) | 10 => v = .pointer (some ⟨p, 2, none⟩) | 11 => v = .int .i64 pg | 12 => v = .agg #[.int .i64 y.ep, .int .i64 y.root, .int .i64 y.free, .int .i64 y.pages] | 13 => BoxZ w5.heap.size v w | _ => True) (fun w' : World => Below w5.heap.size w5 w') _ 14 56 rfl rfl rfl (by kernel_rfl) (by kernel_rfl) hJ0 ?_ ?_ ?_ ?_
   ·intro j v w w' h hb
    match j, h with
    | 0, h => exact h
    | 1, h => exact h
    | 2, h => exact h
    | 3, h => exact h
    | 4, h => exact h
    | 5, h => exact h
    | 6, h => exact h
    | 7, h => exact h
    | 8, h => exact h
    | 9, h => exact h
    | 10, h => exact h
    | 11, h => exact h
    | 12, h => exact h
    | 13, h => exact BoxZ.below h hb
    | 14, _ => exact trivial
    | (_ + 15), _ => exact trivial
   ·skip
    refine Inv.from_cons _ _ _ _ rfl (fun _ a w hJ hF F K hK => ?_) ?_
    ·have hz : a.tmps.size = 56 := hF.size
     have e0 : a.tmps[0]? = some (.pointer (some ⟨p, 0, none⟩)) := Inv2.some_slot (by rw [hz]; exact Nat.le_of_ble_eq_true rfl) (hF.slot 0 (by kernel_rfl))
     clear F hF hz
     go_simp
     exact hK (.pointer (some ⟨p, 0, none⟩)) _ hJ (Below.refl _ _) rfl
    refine Inv.from_cons _ _ _ _ rfl (fun _ a w hJ hF F K hK => ?_) ?_
    ·have hz : a.tmps.size = 56 := hF.size
     have e27 : a.tmps[27]? = some (.pointer (some ⟨p, 0, none⟩)) := Inv2.some_slot (by rw [hz]; exact Nat.le_of_ble_eq_true rfl) (F 0 (by kernel_rfl) 27 rfl)
     clear F hF hz
     go_simp
     exact hK (.pointer (some ⟨p, 0, none⟩)) _ hJ (Below.refl _ _) rfl
    refine Inv.from_cons _ _ _ _ rfl (fun _ a w hJ hF F K hK => ?_) ?_
    ·have hz : a.tmps.size = 56 := hF.size
     have e28 : a.tmps[28]? = some (.pointer (some ⟨p, 0, none⟩)) := Inv2.some_slot (by rw [hz]; exact Nat.le_of_ble_eq_true rfl) (F 1 (by kernel_rfl) 28 rfl)
     clear F hF hz
     go_simp
     exact hK (.pointer (some ⟨p, 3, none⟩)) _ hJ (Below.refl _ _) rfl
    refine Inv.from_cons _ _ _ _ rfl (fun _ a w hJ hF F K hK => ?_) ?_
    ·have hz : a.tmps.size = 56 := hF.size
     have e29 : a.tmps[29]? = some (.pointer (some ⟨p, 3, none⟩)) := Inv2.some_slot (by rw [hz]; exact Nat.le_of_ble_eq_true rfl) (F 2 (by kernel_rfl) 29 rfl)
     clear F hF hz
     obtain ⟨⟨y0, y1, y2, y3⟩, y4⟩ := HCE.out _ hJ
     go_simp
     exact hK (.agg #[.int .i64 P.x.ep, .int .i64 P.x.root, .int .i64 P.x.free, .int .i64 P.x.pages]) _ hJ (Below.refl _ _) rfl
    refine Inv.from_cons _ _ _ _ rfl (fun _ a w hJ hF F K hK => ?_) ?_
    ·have hz : a.tmps.size = 56 := hF.size
     have e1 : a.tmps[1]? = some (.int .i64 root) := Inv2.some_slot (by rw [hz]; exact Nat.le_of_ble_eq_true rfl) (hF.slot 1 (by kernel_rfl))
     clear F hF hz
     go_simp
     exact hK (.int .i64 root) _ hJ (Below.refl _ _) rfl
    refine Inv.from_cons _ _ _ _ rfl (fun _ a w hJ hF F K hK => ?_) ?_
    ·have hz : a.tmps.size = 56 := hF.size
     have e5 : a.tmps[5]? = some (.slice Kc nd ck) := Inv2.some_slot (by rw [hz]; exact Nat.le_of_ble_eq_true rfl) (hF.slot 5 (by kernel_rfl))
     clear F hF hz
     go_simp
     exact hK (.slice Kc nd ck) _ hJ (Below.refl _ _) rfl
    refine Inv.from_cons _ _ _ _ rfl (fun _ a w hJ hF F K hK => ?_) ?_
    ·have hz : a.tmps.size = 56 := hF.size
     have e32 : a.tmps[32]? = some (.slice Kc nd ck) := Inv2.some_slot (by rw [hz]; exact Nat.le_of_ble_eq_true rfl) (F 5 (by kernel_rfl) 32 rfl)
     clear F hF hz
     have hh := itemI_any w Kc nd ck ds 0 0 rfl HND2.out (RK.out.below hJ).row HDL.out
     rw [HHD.out] at hh
     go_simp
     (with_reducible refine hh.mono ?_)
     rintro e' w' ⟨rfl, rfl⟩
     go_simp
     exact hK _ _ hJ (Below.refl _ _) rfl
    refine Inv.from_cons _ _ _ _ rfl (fun _ a w hJ hF F K hK => ?_) ?_
    ·have hz : a.tmps.size = 56 := hF.size
     have e0 : a.tmps[0]? = some (.pointer (some ⟨p, 0, none⟩)) := Inv2.some_slot (by rw [hz]; exact Nat.le_of_ble_eq_true rfl) (hF.slot 0 (by kernel_rfl))
     clear F hF hz
     go_simp
     exact hK (.pointer (some ⟨p, 0, none⟩)) _ hJ (Below.refl _ _) rfl
    refine Inv.from_cons _ _ _ _ rfl (fun _ a w hJ hF F K hK => ?_) ?_
    ·have hz : a.tmps.size = 56 := hF.size
     have e34 : a.tmps[34]? = some (.pointer (some ⟨p, 0, none⟩)) := Inv2.some_slot (by rw [hz]; exact Nat.le_of_ble_eq_true rfl) (F 7 (by kernel_rfl) 34 rfl)
     clear F hF hz
     go_simp
     exact hK (.pointer (some ⟨p, 0, none⟩)) _ hJ (Below.refl _ _) rfl
    refine Inv.from_cons _ _ _ _ rfl (fun _ a w hJ hF F K hK => ?_) ?_
    ·have hz : a.tmps.size = 56 := hF.size
     have e35 : a.tmps[35]? = some (.pointer (some ⟨p, 0, none⟩)) := Inv2.some_slot (by rw [hz]; exact Nat.le_of_ble_eq_true rfl) (F 8 (by kernel_rfl) 35 rfl)
     clear F hF hz
     go_simp
     exact hK (.pointer (some ⟨p, 0, none⟩)) _ hJ (Below.refl _ _) rfl
    refine Inv.from_cons _ _ _ _ rfl (fun _ a w hJ hF F K hK => ?_) ?_
    ·have hz : a.tmps.size = 56 := hF.size
     have e36 : a.tmps[36]? = some (.pointer (some ⟨p, 0, none⟩)) := Inv2.some_slot (by rw [hz]; exact Nat.le_of_ble_eq_true rfl) (F 9 (by kernel_rfl) 36 rfl)
     clear F hF hz
     go_simp
     exact hK (.pointer (some ⟨p, 2, none⟩)) _ hJ (Below.refl _ _) rfl
    refine Inv.from_cons _ _ _ _ rfl (fun _ a w hJ hF F K hK => ?_) ?_
    ·have hz : a.tmps.size = 56 := hF.size
     have e37 : a.tmps[37]? = some (.pointer (some ⟨p, 2, none⟩)) := Inv2.some_slot (by rw [hz]; exact Nat.le_of_ble_eq_true rfl) (F 10 (by kernel_rfl) 37 rfl)
     clear F hF hz
     obtain ⟨⟨y0, y1, y2, y3⟩, y4⟩ := HCE.out _ hJ
     go_simp
     exact hK (.int .i64 pg) _ hJ (Below.refl _ _) rfl
    refine Inv.from_cons _ _ _ _ rfl (fun _ a w hJ hF F K hK => ?_) ?_
    ·have hz : a.tmps.size = 56 := hF.size
     have e30 : a.tmps[30]? = some (.agg #[.int .i64 P.x.ep, .int .i64 P.x.root, .int .i64 P.x.free, .int .i64 P.x.pages]) := Inv2.some_slot (by rw [hz]; exact Nat.le_of_ble_eq_true rfl) (F 3 (by kernel_rfl) 30 rfl)
     have e31 : a.tmps[31]? = some (.int .i64 root) := Inv2.some_slot (by rw [hz]; exact Nat.le_of_ble_eq_true rfl) (F 4 (by kernel_rfl) 31 rfl)
     have e33 : a.tmps[33]? = some (.int .i64 hd) := Inv2.some_slot (by rw [hz]; exact Nat.le_of_ble_eq_true rfl) (F 6 (by kernel_rfl) 33 rfl)
     have e38 : a.tmps[38]? = some (.int .i64 pg) := Inv2.some_slot (by rw [hz]; exact Nat.le_of_ble_eq_true rfl) (F 11 (by kernel_rfl) 38 rfl)
     clear F hF hz
     have hh := SuperCode.next_any w P.x root hd pg HE0.out HE1.out
     rw [HY.out] at hh
     go_simp
     (with_reducible refine hh.mono ?_)
     rintro e' w' ⟨rfl, hb⟩
     go_simp
     exact hK _ _ (Below.step hJ hb) hb rfl
    refine Inv.from_cons _ _ _ _ rfl (fun _ a w hJ hF F K hK => ?_) ?_
    ·have hz : a.tmps.size = 56 := hF.size
     clear F hF hz
     go_simp
     have hb := al_ w (.cells #[.int .i64 0, .int .i64 0, .int .i64 0, .int .i64 0] 29)
     exact hK _ _ (Below.step hJ hb) hb ⟨_, rfl, hJ.size, heap_alloc_new w _⟩
    refine Inv.from_skip _ _ _ _ rfl ?_
    exact Inv.from_end _ _ _ _ (by decide +kernel)
   ·intro o ho a w hJ hF F K hK
    injection (show some _ = some o from ho) with ho
    subst ho
    obtain ⟨f, hf⟩ : ∃ f : Nat → Value, ∀ i, a.tmps.getD i undef = f i := ⟨_, fun _ => rfl⟩
    have g0 : f 0 = (.pointer (some ⟨p, 0, none⟩)) := (hf 0).symm.trans (hF.slot 0 (by kernel_rfl))
    have g1 : f 1 = (.int .i64 root) := (hf 1).symm.trans (hF.slot 1 (by kernel_rfl))
    have g5 : f 5 = (.slice Kc nd ck) := (hf 5).symm.trans (hF.slot 5 (by kernel_rfl))
    have g27 : f 27 = (.pointer (some ⟨p, 0, none⟩)) := (hf 27).symm.trans (F 0 (by decide) 27 rfl)
    have g28 : f 28 = (.pointer (some ⟨p, 0, none⟩)) := (hf 28).symm.trans (F 1 (by decide) 28 rfl)
    have g29 : f 29 = (.pointer (some ⟨p, 3, none⟩)) := (hf 29).symm.trans (F 2 (by decide) 29 rfl)
    have g30 : f 30 = (.agg #[.int .i64 P.x.ep, .int .i64 P.x.root, .int .i64 P.x.free, .int .i64 P.x.pages]) := (hf 30).symm.trans (F 3 (by decide) 30 rfl)
    have g31 : f 31 = (.int .i64 root) := (hf 31).symm.trans (F 4 (by decide) 31 rfl)
    have g32 : f 32 = (.slice Kc nd ck) := (hf 32).symm.trans (F 5 (by decide) 32 rfl)
    have g33 : f 33 = (.int .i64 hd) := (hf 33).symm.trans (F 6 (by decide) 33 rfl)
    have g34 : f 34 = (.pointer (some ⟨p, 0, none⟩)) := (hf 34).symm.trans (F 7 (by decide) 34 rfl)
    have g35 : f 35 = (.pointer (some ⟨p, 0, none⟩)) := (hf 35).symm.trans (F 8 (by decide) 35 rfl)
    have g36 : f 36 = (.pointer (some ⟨p, 0, none⟩)) := (hf 36).symm.trans (F 9 (by decide) 36 rfl)
    have g37 : f 37 = (.pointer (some ⟨p, 2, none⟩)) := (hf 37).symm.trans (F 10 (by decide) 37 rfl)
    have g38 : f 38 = (.int .i64 pg) := (hf 38).symm.trans (F 11 (by decide) 38 rfl)
    have g39 : f 39 = (.agg #[.int .i64 y.ep, .int .i64 y.root, .int .i64 y.free, .int .i64 y.pages]) := (hf 39).symm.trans (F 12 (by decide) 39 rfl)
    obtain ⟨x7, g7⟩ : ∃ x, f 7 = x := ⟨_, rfl⟩
    have f13 : BoxZ w5.heap.size x7 w := by rw [← g7, ← hf 7]; exact F 13 (by decide) 7 rfl
    have ha := Frames.frame (show a.tmps.size = 56 from hF.size) hF.defers hf (l := [f 0, f 1, f 2, f 3, f 4, f 5, f 6, f 7, f 8, f 9, f 10, f 11, f 12, f 13, f 14, f 15, f 16, f 17, f 18, f 19, f 20, f 21, f 22, f 23, f 24, f 25, f 26, f 27, f 28, f 29, f 30, f 31, f 32, f 33, f 34, f 35, f 36, f 37, f 38, f 39, f 40, f 41, f 42, f 43, f 44, f 45, f 46, f 47, f 48, f 49, f 50, f 51, f 52, f 53, f 54, f 55]) rfl
    simp only [g0, g1, g5, g27, g28, g29, g30, g31, g32, g33, g34, g35, g36, g37, g38, g39, g7] at ha
    clear F hF hf g0 g1 g5 g27 g28 g29 g30 g31 g32 g33 g34 g35 g36 g37 g38 g39 g7
    subst ha
    obtain ⟨b, hx, hlo, hz⟩ := f13
    subst hx
    obtain ⟨z0, z1, z2, z3⟩ := sup_cells hz
    have q0 := At.frozen hz 0
    have q1 := At.frozen hz 1
    have q2 := At.frozen hz 2
    have q3 := At.frozen hz 3
    have hpl := cr_plus H5.out (H5.out.below hJ) hJ.size
    have hbY : Plus Y w5 w b := Or.inr ⟨hlo, At.lt hz⟩
    have hov := SuperCode.bs_over hz y
    have ht4 := t4 w b (.int .i64 y.ep) (.int .i64 y.root) (.int .i64 y.free) (.int .i64 y.pages)
    obtain ⟨w7, hw7⟩ : ∃ v, v = (((w.setCell ⟨b, 0, none⟩ (.int .i64 y.ep)).setCell ⟨b, 1, none⟩ (.int .i64 y.root)).setCell ⟨b, 2, none⟩ (.int .i64 y.free)).setCell ⟨b, 3, none⟩ (.int .i64 y.pages) := ⟨_, rfl⟩
    rw [← hw7] at hov ht4
    have h7 := hpl.turn ht4 fun i _ hn z => hn (by rw [show i = b from z]; exact hbY)
    have rK7 := ((RK.out.below hJ).turn ht4 fun i hi z => by have := H5.out.xl i hi.1; rw [show i = b from z] at this; omega).wide (T := fun i => Plus Y w5 w i ∧ ¬ X i) fun i hi => ⟨Or.inl hi.1, hi.2⟩
    have T7 := Lib.hid ((T5.out.step (Turn.ofBelow hJ)).step (ht4.mono fun i _ z q => by have := HXL.out i q; have h9 : i = b := z; have h10 := T5.out.size; omega))
    have HYX := Lib.hid (show ∀ i, X i → Plus Y w5 w i from fun i hi => Or.inl (HYX0.out i hi))
    have HW7 := Lib.hid hw7
    clear hJ hpl hz hw7 ht4 hlo
    generalize Plus Y w5 w = Y2 at *
    go_simp
    refine hK _ _ ?_
    try rw [← HW7.out]
    clear hK HW7 z0 z1 z2 z3 q0 q1 q2 q3
    obtain ⟨x0, x1, x2, x3⟩ := sup_cells hov
    have hl2 : 2 ≤ S2.last.length := by have := HA2.out.pg; have h9 := HX2.out; have h10 : P.pg ≤ R.pg := HRR.out.2.2; simp only at this; omega
    have hcall := tellSuper_any h7 (by have := HM2.out; omega) y HOK.out HA2.out.live hl2
    have hw := HA2.out.write (Q := { P with fl := R.fl, pg := R.pg, len := R.len, rd := fun q => if q = y.ep % 2 then sbytes y else rdw (P.x.ep + 1) ds R.fl P.rd ds.length q }) (sbytes_len y) (by have := HOK.out.1; omega) (by omega) rfl rfl rfl rfl
    have hs := hw.2.1.sync
    obtain ⟨S3, hS3⟩ : ∃ v, v = (S2.write (y.ep % 2) (sbytes y)).sync := ⟨_, rfl⟩
    rw [← hS3] at hcall hs
    have HAG3 := Lib.hid (hs.1.of (Q := { R with rd := R.told ds y, x := y, ch := ds, nw := [], od := P.x.ep + 1, tf := R.fl }) HRR.out.1 rfl rfl (funext fun q => (told_rdw HND.out q).trans (by rw [HYE.out.1, show R.rd = P.rd from HRR.out.2.1])))
    clear h7 hw hs hS3 hl2
    go_wp2_with fail
    (with_reducible refine hcall.mono ?_)
    clear hcall x0 x1 x2 x3
    rintro e w8 ⟨rfl, ⟨F3, h8⟩, t8⟩
    have z8 : SuperSpec.Bs w8 b y := At.same hov (t8.block b (At.lt hov) fun z => z hbY)
    have rK8 := rK7.turn t8 fun _ q z => z q.1
    have T8 := Lib.hid (T7.out.step (t8.mono fun i _ hi hx => hi (HYX.out i hx)))
    clear t8 hov rK7
    go_upto_region 12 with fail
    refine wp_region_any (by kernel_rfl) ?_
    change wpAny _ _ _ _ _ _ _ (World.drew _)
    generalize hu0 : World.drew w8 = u0
    have hCu : Cr u0 p d g mp S3 V Y2 (m2 + 4000) nn2 F3 A2 B2 C2 a2 b2 c2 := by rw [← hu0]; exact h8.below (Below.refl _ _).drew
    have rKu : RowP u0 (fun i => Y2 i ∧ ¬ X i) Kc (intsV ds) := by rw [← hu0]; exact rK8.below (Below.refl _ _).drew
    have z8u : SuperSpec.Bs u0 b y := by rw [← hu0]; exact z8
    have Tu := Lib.hid (show Turn (Not X) W u0 by rw [← hu0]; exact T8.out.step (Turn.ofBelow (Below.refl _ _).drew))
    obtain ⟨y0, y1, y2, y3⟩ := sup_cells z8u
    have g9 := (pgc hCu.st).2.2.2.2.1
    have hCx := hCu.less HYX.out
    have hke := keep_any hCx y (ch := ds) (l := R.fl) (by rw [← HND2.out]; exact HCK.out) (by have := hCx.lc; rwa [HVF.out] at this) (hCu.lessRow rKu) (by have := hCx.rc; rwa [HVF.out] at this)
    rw [HVF.out] at g9
    rw [← HND2.out] at hke
    have HKE := Lib.hid hke
    clear h8 rK8 z8 hu0 hCu rKu z8u hCx hke
    refine Reg.take_at (i := 0) (d := 48) (v := ?_) rfl rfl (by kernel_rfl) (by kernel_rfl) (by kernel_rfl) (fun _ _ _ h => h) (Or.inl ⟨by rfl, ?_⟩) ?_
    rotate_left 1
    ·intro w; go_simp <;> with_reducible rfl
    simp only [Act.put, List.setIfInBounds_toArray, List.set_cons_zero, List.set_cons_succ]
    refine Reg.take_at (i := 2) (d := 50) (v := ?_) rfl rfl (by kernel_rfl) (by kernel_rfl) (by kernel_rfl) (fun _ _ _ h => h) (Or.inl ⟨by rfl, ?_⟩) ?_
    rotate_left 1
    ·intro w; go_simp <;> with_reducible rfl
    simp only [Act.put, List.setIfInBounds_toArray, List.set_cons_zero, List.set_cons_succ]
    refine Reg.take_at (i := 3) (d := 51) (v := ?_) rfl rfl (by kernel_rfl) (by kernel_rfl) (by kernel_rfl) (fun _ _ _ h => h) (Or.inl ⟨by rfl, ?_⟩) ?_
    rotate_left 1
    ·intro w; go_simp <;> with_reducible rfl
    simp only [Act.put, List.setIfInBounds_toArray, List.set_cons_zero, List.set_cons_succ]
    refine Reg.take_at (i := 4) (d := 52) (v := ?_) rfl rfl (by kernel_rfl) (by kernel_rfl) (by kernel_rfl) (fun _ _ _ h => h) (Or.inl ⟨by rfl, ?_⟩) ?_
    rotate_left 1
    ·intro w; go_simp <;> with_reducible rfl
    simp only [Act.put, List.setIfInBounds_toArray, List.set_cons_zero, List.set_cons_succ]
    refine Reg.take_at (i := 5) (d := 53) (v := ?_) rfl rfl (by kernel_rfl) (by kernel_rfl) (by kernel_rfl) (fun _ _ _ h => h) (Or.inl ⟨by rfl, ?_⟩) ?_
    rotate_left 1
    ·intro w; go_simp <;> with_reducible rfl
    simp only [Act.put, List.setIfInBounds_toArray, List.set_cons_zero, List.set_cons_succ]
    refine wpAny_ready (rs := [1, 6]) (by decide +kernel) (by simp) ?_
    refine AllReady.cons rfl (fun KK hK => ?_) ?_
    ·go_simp
     refine hK _ _ ?_
     clear hK KK
     refine wpAny_ready (rs := [6]) (by decide +kernel) (by simp) ?_
     refine AllReady.cons rfl (fun KK hK => ?_) AllReady.nil
     go_simp
     refine hK _ _ ?_
     clear hK KK
     refine wpAny_ready (rs := [7]) (by decide +kernel) (by simp) ?_
     refine AllReady.cons rfl (fun KK hK => ?_) AllReady.nil
     go_simp
     (with_reducible refine (HKE.out).mono ?_)
     rintro e w9 ⟨rfl, h9, t9⟩
     go_simp
     refine hK _ _ ?_
     clear hK KK
     refine wpAny_done (by kernel_rfl) ?_ _
     have H9 := Lib.hid (h9.up (show m2 + 4000 ≤ m + 800000 by have := HM2.out; omega))
     have T9 := Lib.hid (Tu.out.step t9)
     clear h9 t9 y0 y1 y2 y3 g9
     go_wp2_with fail
     go_ret
     exact ⟨by rw [HEND.out]; rfl, ⟨S3, ⟨_, _, _, _, _, _, _, _, by rw [HEND.out]; exact H9.out.as HYE.out.2.symm rfl rfl rfl rfl HYE.out.1.symm rfl⟩, by rw [HEND.out]; exact HAG3.out⟩, T9.out⟩
    refine AllReady.cons rfl (fun KK hK => ?_) AllReady.nil
    go_simp
    refine hK _ _ ?_
    clear hK KK
    refine wpAny_ready (rs := [1]) (by decide +kernel) (by simp) ?_
    refine AllReady.cons rfl (fun KK hK => ?_) AllReady.nil
    go_simp
    refine hK _ _ ?_
    clear hK KK
    refine wpAny_ready (rs := [7]) (by decide +kernel) (by simp) ?_
    refine AllReady.cons rfl (fun KK hK => ?_) AllReady.nil
    go_simp
    (with_reducible refine (HKE.out).mono ?_)
    rintro e w9 ⟨rfl, h9, t9⟩
    go_simp
    refine hK _ _ ?_
    clear hK KK
    refine wpAny_done (by kernel_rfl) ?_ _
    have H9 := Lib.hid (h9.up (show m2 + 4000 ≤ m + 800000 by have := HM2.out; omega))
    have T9 := Lib.hid (Tu.out.step t9)
    clear h9 t9 y0 y1 y2 y3 g9
    go_wp2_with fail
    go_ret
    exact ⟨by rw [HEND.out]; rfl, ⟨S3, ⟨_, _, _, _, _, _, _, _, by rw [HEND.out]; exact H9.out.as HYE.out.2.symm rfl rfl rfl rfl HYE.out.1.symm rfl⟩, by rw [HEND.out]; exact HAG3.out⟩, T9.out⟩
   ·intro hq; exact absurd hq (by decide +kernel)
  ·have hzb : (root != 0) = true := by simpa using hz
   rw [decide_eq_true (hr.elim (fun z => absurd z hz) id)] at hiu
   clear hz
   go_enter Tryz.func29, Tryz.ntmps29
   go_upto_region 3 with ((with_reducible refine hiu.mono ?_); clear hiu; rintro e w1 ⟨rfl, b1⟩)
   clear hzb
   have hcall := HTG.out w1 b1
   have B1 := Lib.hid b1
   clear b1
   go_wp2_with fail
   (with_reducible refine hcall.mono ?_)
   clear hcall
   rintro e w5 ⟨Kc, ck, S2, Y, rfl, ⟨nn2, F2, A2, B2, C2, a2, b2, c2, h5⟩, hYX, rK, hck, hag, t5⟩
   have HYX0 := Lib.hid hYX
   have HA2 := Lib.hid hag
   have T5 := Lib.hid ((Turn.ofBelow B1.out).step t5)
   clear t5 hYX hag
   obtain ⟨nd, hnd⟩ : ∃ z, z = ds.length := ⟨_, rfl⟩
   rw [← hnd] at hck ⊢
   have HCK := Lib.hid hck
   have HND2 := Lib.hid hnd
   clear hnd hck
   generalize hV : ({ P with fl := R.fl, pg := R.pg } : PS) = V at h5
   have hVx : V.x = P.x := by rw [← hV]
   have hVp : V.pg = pg := by rw [← hV]; exact HPG.out
   have HVF := Lib.hid (show V.fl = R.fl by rw [← hV])
   have HVV := Lib.hid hV
   clear hV
   obtain ⟨m2, hm2⟩ : ∃ z, z = m + 700000 := ⟨_, rfl⟩
   rw [← hm2] at h5
   have HM2 := Lib.hid (And.intro hm2 i8)
   clear hm2 i8
   have HCE := Lib.hid (fun (w' : World) (hb : Below w5.heap.size w5 w') => by
    have q := pgc (h5.below hb).st
    have q1 := q.2.1
    have q2 := q.1.2.2
    rw [hVx] at q1
    rw [hVp] at q2
    exact And.intro q1 q2)
   have H5 := Lib.hid h5
   have RK := Lib.hid rK
   clear h5 rK hVx hVp
   go_upto_region 7 with fail
   have hJ0 : Below w5.heap.size w5 (World.drew w5) := (Below.refl _ _).drew
   refine wp_region_any (by kernel_rfl) ?_
   change wpAny _ _ _ _ _ _ _ (World.drew _)
   refine Inv.inv_any (fun (i : Nat) (v : Value) (w : World) => match i with | 0 => v = .pointer (some ⟨p, 0, none⟩) | 1 => v = .pointer (some ⟨p, 0, none⟩) | 2 => v = .pointer (some ⟨p, 3, none⟩) | 3 => v = .agg #[.int .i64 P.x.ep, .int .i64 P.x.root, .int .i64 P.x.free, .int .i64 P.x.pages] | 4 => v = .int .i64 root | 5 => v = .slice Kc nd ck | 6 => v = .int .i64 hd | 7 => v = .pointer (some ⟨p, 0, none⟩) | 8 => v = .pointer (some ⟨p, 0, none⟩) | 9 => v = .pointer (some ⟨p, 0, none⟩) | 10 => v = .pointer (some ⟨p, 2, none⟩) | 11 => v = .int .i64 pg | 12 => v = .agg #[.int .i64 y.ep, .int .i64 y.root, .int .i64 y.free, .int .i64 y.pages] | 13 => BoxZ w5.heap.size v w | _ => True) (fun w' : World => Below w5.heap.size w5 w') _ 14 56 rfl rfl rfl (by kernel_rfl) (by kernel_rfl) hJ0 ?_ ?_ ?_ ?_
   ·intro j v w w' h hb
    match j, h with
    | 0, h => exact h
    | 1, h => exact h
    | 2, h => exact h
    | 3, h => exact h
    | 4, h => exact h
    | 5, h => exact h
    | 6, h => exact h
    | 7, h => exact h
    | 8, h => exact h
    | 9, h => exact h
    | 10, h => exact h
    | 11, h => exact h
    | 12, h => exact h
    | 13, h => exact BoxZ.below h hb
    | 14, _ => exact trivial
    | (_ + 15), _ => exact trivial
   ·skip
    refine Inv.from_cons _ _ _ _ rfl (fun _ a w hJ hF F K hK => ?_) ?_
    ·have hz : a.tmps.size = 56 := hF.size
     have e0 : a.tmps[0]? = some (.pointer (some ⟨p, 0, none⟩)) := Inv2.some_slot (by rw [hz]; exact Nat.le_of_ble_eq_true rfl) (hF.slot 0 (by kernel_rfl))
     clear F hF hz
     go_simp
     exact hK (.pointer (some ⟨p, 0, none⟩)) _ hJ (Below.refl _ _) rfl
    refine Inv.from_cons _ _ _ _ rfl (fun _ a w hJ hF F K hK => ?_) ?_
    ·have hz : a.tmps.size = 56 := hF.size
     have e27 : a.tmps[27]? = some (.pointer (some ⟨p, 0, none⟩)) := Inv2.some_slot (by rw [hz]; exact Nat.le_of_ble_eq_true rfl) (F 0 (by kernel_rfl) 27 rfl)
     clear F hF hz
     go_simp
     exact hK (.pointer (some ⟨p, 0, none⟩)) _ hJ (Below.refl _ _) rfl
    refine Inv.from_cons _ _ _ _ rfl (fun _ a w hJ hF F K hK => ?_) ?_
    ·have hz : a.tmps.size = 56 := hF.size
     have e28 : a.tmps[28]? = some (.pointer (some ⟨p, 0, none⟩)) := Inv2.some_slot (by rw [hz]; exact Nat.le_of_ble_eq_true rfl) (F 1 (by kernel_rfl) 28 rfl)
     clear F hF hz
     go_simp
     exact hK (.pointer (some ⟨p, 3, none⟩)) _ hJ (Below.refl _ _) rfl
    refine Inv.from_cons _ _ _ _ rfl (fun _ a w hJ hF F K hK => ?_) ?_
    ·have hz : a.tmps.size = 56 := hF.size
     have e29 : a.tmps[29]? = some (.pointer (some ⟨p, 3, none⟩)) := Inv2.some_slot (by rw [hz]; exact Nat.le_of_ble_eq_true rfl) (F 2 (by kernel_rfl) 29 rfl)
     clear F hF hz
     obtain ⟨⟨y0, y1, y2, y3⟩, y4⟩ := HCE.out _ hJ
     go_simp
     exact hK (.agg #[.int .i64 P.x.ep, .int .i64 P.x.root, .int .i64 P.x.free, .int .i64 P.x.pages]) _ hJ (Below.refl _ _) rfl
    refine Inv.from_cons _ _ _ _ rfl (fun _ a w hJ hF F K hK => ?_) ?_
    ·have hz : a.tmps.size = 56 := hF.size
     have e1 : a.tmps[1]? = some (.int .i64 root) := Inv2.some_slot (by rw [hz]; exact Nat.le_of_ble_eq_true rfl) (hF.slot 1 (by kernel_rfl))
     clear F hF hz
     go_simp
     exact hK (.int .i64 root) _ hJ (Below.refl _ _) rfl
    refine Inv.from_cons _ _ _ _ rfl (fun _ a w hJ hF F K hK => ?_) ?_
    ·have hz : a.tmps.size = 56 := hF.size
     have e5 : a.tmps[5]? = some (.slice Kc nd ck) := Inv2.some_slot (by rw [hz]; exact Nat.le_of_ble_eq_true rfl) (hF.slot 5 (by kernel_rfl))
     clear F hF hz
     go_simp
     exact hK (.slice Kc nd ck) _ hJ (Below.refl _ _) rfl
    refine Inv.from_cons _ _ _ _ rfl (fun _ a w hJ hF F K hK => ?_) ?_
    ·have hz : a.tmps.size = 56 := hF.size
     have e32 : a.tmps[32]? = some (.slice Kc nd ck) := Inv2.some_slot (by rw [hz]; exact Nat.le_of_ble_eq_true rfl) (F 5 (by kernel_rfl) 32 rfl)
     clear F hF hz
     have hh := itemI_any w Kc nd ck ds 0 0 rfl HND2.out (RK.out.below hJ).row HDL.out
     rw [HHD.out] at hh
     go_simp
     (with_reducible refine hh.mono ?_)
     rintro e' w' ⟨rfl, rfl⟩
     go_simp
     exact hK _ _ hJ (Below.refl _ _) rfl
    refine Inv.from_cons _ _ _ _ rfl (fun _ a w hJ hF F K hK => ?_) ?_
    ·have hz : a.tmps.size = 56 := hF.size
     have e0 : a.tmps[0]? = some (.pointer (some ⟨p, 0, none⟩)) := Inv2.some_slot (by rw [hz]; exact Nat.le_of_ble_eq_true rfl) (hF.slot 0 (by kernel_rfl))
     clear F hF hz
     go_simp
     exact hK (.pointer (some ⟨p, 0, none⟩)) _ hJ (Below.refl _ _) rfl
    refine Inv.from_cons _ _ _ _ rfl (fun _ a w hJ hF F K hK => ?_) ?_
    ·have hz : a.tmps.size = 56 := hF.size
     have e34 : a.tmps[34]? = some (.pointer (some ⟨p, 0, none⟩)) := Inv2.some_slot (by rw [hz]; exact Nat.le_of_ble_eq_true rfl) (F 7 (by kernel_rfl) 34 rfl)
     clear F hF hz
     go_simp
     exact hK (.pointer (some ⟨p, 0, none⟩)) _ hJ (Below.refl _ _) rfl
    refine Inv.from_cons _ _ _ _ rfl (fun _ a w hJ hF F K hK => ?_) ?_
    ·have hz : a.tmps.size = 56 := hF.size
     have e35 : a.tmps[35]? = some (.pointer (some ⟨p, 0, none⟩)) := Inv2.some_slot (by rw [hz]; exact Nat.le_of_ble_eq_true rfl) (F 8 (by kernel_rfl) 35 rfl)
     clear F hF hz
     go_simp
     exact hK (.pointer (some ⟨p, 0, none⟩)) _ hJ (Below.refl _ _) rfl
    refine Inv.from_cons _ _ _ _ rfl (fun _ a w hJ hF F K hK => ?_) ?_
    ·have hz : a.tmps.size = 56 := hF.size
     have e36 : a.tmps[36]? = some (.pointer (some ⟨p, 0, none⟩)) := Inv2.some_slot (by rw [hz]; exact Nat.le_of_ble_eq_true rfl) (F 9 (by kernel_rfl) 36 rfl)
     clear F hF hz
     go_simp
     exact hK (.pointer (some ⟨p, 2, none⟩)) _ hJ (Below.refl _ _) rfl
    refine Inv.from_cons _ _ _ _ rfl (fun _ a w hJ hF F K hK => ?_) ?_
    ·have hz : a.tmps.size = 56 := hF.size
     have e37 : a.tmps[37]? = some (.pointer (some ⟨p, 2, none⟩)) := Inv2.some_slot (by rw [hz]; exact Nat.le_of_ble_eq_true rfl) (F 10 (by kernel_rfl) 37 rfl)
     clear F hF hz
     obtain ⟨⟨y0, y1, y2, y3⟩, y4⟩ := HCE.out _ hJ
     go_simp
     exact hK (.int .i64 pg) _ hJ (Below.refl _ _) rfl
    refine Inv.from_cons _ _ _ _ rfl (fun _ a w hJ hF F K hK => ?_) ?_
    ·have hz : a.tmps.size = 56 := hF.size
     have e30 : a.tmps[30]? = some (.agg #[.int .i64 P.x.ep, .int .i64 P.x.root, .int .i64 P.x.free, .int .i64 P.x.pages]) := Inv2.some_slot (by rw [hz]; exact Nat.le_of_ble_eq_true rfl) (F 3 (by kernel_rfl) 30 rfl)
     have e31 : a.tmps[31]? = some (.int .i64 root) := Inv2.some_slot (by rw [hz]; exact Nat.le_of_ble_eq_true rfl) (F 4 (by kernel_rfl) 31 rfl)
     have e33 : a.tmps[33]? = some (.int .i64 hd) := Inv2.some_slot (by rw [hz]; exact Nat.le_of_ble_eq_true rfl) (F 6 (by kernel_rfl) 33 rfl)
     have e38 : a.tmps[38]? = some (.int .i64 pg) := Inv2.some_slot (by rw [hz]; exact Nat.le_of_ble_eq_true rfl) (F 11 (by kernel_rfl) 38 rfl)
     clear F hF hz
     have hh := SuperCode.next_any w P.x root hd pg HE0.out HE1.out
     rw [HY.out] at hh
     go_simp
     (with_reducible refine hh.mono ?_)
     rintro e' w' ⟨rfl, hb⟩
     go_simp
     exact hK _ _ (Below.step hJ hb) hb rfl
    refine Inv.from_cons _ _ _ _ rfl (fun _ a w hJ hF F K hK => ?_) ?_
    ·have hz : a.tmps.size = 56 := hF.size
     clear F hF hz
     go_simp
     have hb := al_ w (.cells #[.int .i64 0, .int .i64 0, .int .i64 0, .int .i64 0] 29)
     exact hK _ _ (Below.step hJ hb) hb ⟨_, rfl, hJ.size, heap_alloc_new w _⟩
    refine Inv.from_skip _ _ _ _ rfl ?_
    exact Inv.from_end _ _ _ _ (by decide +kernel)
   ·intro o ho a w hJ hF F K hK
    injection (show some _ = some o from ho) with ho
    subst ho
    obtain ⟨f, hf⟩ : ∃ f : Nat → Value, ∀ i, a.tmps.getD i undef = f i := ⟨_, fun _ => rfl⟩
    have g0 : f 0 = (.pointer (some ⟨p, 0, none⟩)) := (hf 0).symm.trans (hF.slot 0 (by kernel_rfl))
    have g1 : f 1 = (.int .i64 root) := (hf 1).symm.trans (hF.slot 1 (by kernel_rfl))
    have g5 : f 5 = (.slice Kc nd ck) := (hf 5).symm.trans (hF.slot 5 (by kernel_rfl))
    have g27 : f 27 = (.pointer (some ⟨p, 0, none⟩)) := (hf 27).symm.trans (F 0 (by decide) 27 rfl)
    have g28 : f 28 = (.pointer (some ⟨p, 0, none⟩)) := (hf 28).symm.trans (F 1 (by decide) 28 rfl)
    have g29 : f 29 = (.pointer (some ⟨p, 3, none⟩)) := (hf 29).symm.trans (F 2 (by decide) 29 rfl)
    have g30 : f 30 = (.agg #[.int .i64 P.x.ep, .int .i64 P.x.root, .int .i64 P.x.free, .int .i64 P.x.pages]) := (hf 30).symm.trans (F 3 (by decide) 30 rfl)
    have g31 : f 31 = (.int .i64 root) := (hf 31).symm.trans (F 4 (by decide) 31 rfl)
    have g32 : f 32 = (.slice Kc nd ck) := (hf 32).symm.trans (F 5 (by decide) 32 rfl)
    have g33 : f 33 = (.int .i64 hd) := (hf 33).symm.trans (F 6 (by decide) 33 rfl)
    have g34 : f 34 = (.pointer (some ⟨p, 0, none⟩)) := (hf 34).symm.trans (F 7 (by decide) 34 rfl)
    have g35 : f 35 = (.pointer (some ⟨p, 0, none⟩)) := (hf 35).symm.trans (F 8 (by decide) 35 rfl)
    have g36 : f 36 = (.pointer (some ⟨p, 0, none⟩)) := (hf 36).symm.trans (F 9 (by decide) 36 rfl)
    have g37 : f 37 = (.pointer (some ⟨p, 2, none⟩)) := (hf 37).symm.trans (F 10 (by decide) 37 rfl)
    have g38 : f 38 = (.int .i64 pg) := (hf 38).symm.trans (F 11 (by decide) 38 rfl)
    have g39 : f 39 = (.agg #[.int .i64 y.ep, .int .i64 y.root, .int .i64 y.free, .int .i64 y.pages]) := (hf 39).symm.trans (F 12 (by decide) 39 rfl)
    obtain ⟨x7, g7⟩ : ∃ x, f 7 = x := ⟨_, rfl⟩
    have f13 : BoxZ w5.heap.size x7 w := by rw [← g7, ← hf 7]; exact F 13 (by decide) 7 rfl
    have ha := Frames.frame (show a.tmps.size = 56 from hF.size) hF.defers hf (l := [f 0, f 1, f 2, f 3, f 4, f 5, f 6, f 7, f 8, f 9, f 10, f 11, f 12, f 13, f 14, f 15, f 16, f 17, f 18, f 19, f 20, f 21, f 22, f 23, f 24, f 25, f 26, f 27, f 28, f 29, f 30, f 31, f 32, f 33, f 34, f 35, f 36, f 37, f 38, f 39, f 40, f 41, f 42, f 43, f 44, f 45, f 46, f 47, f 48, f 49, f 50, f 51, f 52, f 53, f 54, f 55]) rfl
    simp only [g0, g1, g5, g27, g28, g29, g30, g31, g32, g33, g34, g35, g36, g37, g38, g39, g7] at ha
    clear F hF hf g0 g1 g5 g27 g28 g29 g30 g31 g32 g33 g34 g35 g36 g37 g38 g39 g7
    subst ha
    obtain ⟨b, hx, hlo, hz⟩ := f13
    subst hx
    obtain ⟨z0, z1, z2, z3⟩ := sup_cells hz
    have q0 := At.frozen hz 0
    have q1 := At.frozen hz 1
    have q2 := At.frozen hz 2
    have q3 := At.frozen hz 3
    have hpl := cr_plus H5.out (H5.out.below hJ) hJ.size
    have hbY : Plus Y w5 w b := Or.inr ⟨hlo, At.lt hz⟩
    have hov := SuperCode.bs_over hz y
    have ht4 := t4 w b (.int .i64 y.ep) (.int .i64 y.root) (.int .i64 y.free) (.int .i64 y.pages)
    obtain ⟨w7, hw7⟩ : ∃ v, v = (((w.setCell ⟨b, 0, none⟩ (.int .i64 y.ep)).setCell ⟨b, 1, none⟩ (.int .i64 y.root)).setCell ⟨b, 2, none⟩ (.int .i64 y.free)).setCell ⟨b, 3, none⟩ (.int .i64 y.pages) := ⟨_, rfl⟩
    rw [← hw7] at hov ht4
    have h7 := hpl.turn ht4 fun i _ hn z => hn (by rw [show i = b from z]; exact hbY)
    have rK7 := ((RK.out.below hJ).turn ht4 fun i hi z => by have := H5.out.xl i hi.1; rw [show i = b from z] at this; omega).wide (T := fun i => Plus Y w5 w i ∧ ¬ X i) fun i hi => ⟨Or.inl hi.1, hi.2⟩
    have T7 := Lib.hid ((T5.out.step (Turn.ofBelow hJ)).step (ht4.mono fun i _ z q => by have := HXL.out i q; have h9 : i = b := z; have h10 := T5.out.size; omega))
    have HYX := Lib.hid (show ∀ i, X i → Plus Y w5 w i from fun i hi => Or.inl (HYX0.out i hi))
    have HW7 := Lib.hid hw7
    clear hJ hpl hz hw7 ht4 hlo
    generalize Plus Y w5 w = Y2 at *
    go_simp
    refine hK _ _ ?_
    try rw [← HW7.out]
    clear hK HW7 z0 z1 z2 z3 q0 q1 q2 q3
    obtain ⟨x0, x1, x2, x3⟩ := sup_cells hov
    have hl2 : 2 ≤ S2.last.length := by have := HA2.out.pg; have h9 := HX2.out; have h10 : P.pg ≤ R.pg := HRR.out.2.2; simp only at this; omega
    have hcall := tellSuper_any h7 (by have := HM2.out; omega) y HOK.out HA2.out.live hl2
    have hw := HA2.out.write (Q := { P with fl := R.fl, pg := R.pg, len := R.len, rd := fun q => if q = y.ep % 2 then sbytes y else rdw (P.x.ep + 1) ds R.fl P.rd ds.length q }) (sbytes_len y) (by have := HOK.out.1; omega) (by omega) rfl rfl rfl rfl
    have hs := hw.2.1.sync
    obtain ⟨S3, hS3⟩ : ∃ v, v = (S2.write (y.ep % 2) (sbytes y)).sync := ⟨_, rfl⟩
    rw [← hS3] at hcall hs
    have HAG3 := Lib.hid (hs.1.of (Q := { R with rd := R.told ds y, x := y, ch := ds, nw := [], od := P.x.ep + 1, tf := R.fl }) HRR.out.1 rfl rfl (funext fun q => (told_rdw HND.out q).trans (by rw [HYE.out.1, show R.rd = P.rd from HRR.out.2.1])))
    clear h7 hw hs hS3 hl2
    go_wp2_with fail
    (with_reducible refine hcall.mono ?_)
    clear hcall x0 x1 x2 x3
    rintro e w8 ⟨rfl, ⟨F3, h8⟩, t8⟩
    have z8 : SuperSpec.Bs w8 b y := At.same hov (t8.block b (At.lt hov) fun z => z hbY)
    have rK8 := rK7.turn t8 fun _ q z => z q.1
    have T8 := Lib.hid (T7.out.step (t8.mono fun i _ hi hx => hi (HYX.out i hx)))
    clear t8 hov rK7
    go_upto_region 12 with fail
    refine wp_region_any (by kernel_rfl) ?_
    change wpAny _ _ _ _ _ _ _ (World.drew _)
    generalize hu0 : World.drew w8 = u0
    have hCu : Cr u0 p d g mp S3 V Y2 (m2 + 4000) nn2 F3 A2 B2 C2 a2 b2 c2 := by rw [← hu0]; exact h8.below (Below.refl _ _).drew
    have rKu : RowP u0 (fun i => Y2 i ∧ ¬ X i) Kc (intsV ds) := by rw [← hu0]; exact rK8.below (Below.refl _ _).drew
    have z8u : SuperSpec.Bs u0 b y := by rw [← hu0]; exact z8
    have Tu := Lib.hid (show Turn (Not X) W u0 by rw [← hu0]; exact T8.out.step (Turn.ofBelow (Below.refl _ _).drew))
    obtain ⟨y0, y1, y2, y3⟩ := sup_cells z8u
    have g9 := (pgc hCu.st).2.2.2.2.1
    have hCx := hCu.less HYX.out
    have hke := keep_any hCx y (ch := ds) (l := R.fl) (by rw [← HND2.out]; exact HCK.out) (by have := hCx.lc; rwa [HVF.out] at this) (hCu.lessRow rKu) (by have := hCx.rc; rwa [HVF.out] at this)
    rw [HVF.out] at g9
    rw [← HND2.out] at hke
    have HKE := Lib.hid hke
    clear h8 rK8 z8 hu0 hCu rKu z8u hCx hke
    refine Reg.take_at (i := 0) (d := 48) (v := ?_) rfl rfl (by kernel_rfl) (by kernel_rfl) (by kernel_rfl) (fun _ _ _ h => h) (Or.inl ⟨by rfl, ?_⟩) ?_
    rotate_left 1
    ·intro w; go_simp <;> with_reducible rfl
    simp only [Act.put, List.setIfInBounds_toArray, List.set_cons_zero, List.set_cons_succ]
    refine Reg.take_at (i := 2) (d := 50) (v := ?_) rfl rfl (by kernel_rfl) (by kernel_rfl) (by kernel_rfl) (fun _ _ _ h => h) (Or.inl ⟨by rfl, ?_⟩) ?_
    rotate_left 1
    ·intro w; go_simp <;> with_reducible rfl
    simp only [Act.put, List.setIfInBounds_toArray, List.set_cons_zero, List.set_cons_succ]
    refine Reg.take_at (i := 3) (d := 51) (v := ?_) rfl rfl (by kernel_rfl) (by kernel_rfl) (by kernel_rfl) (fun _ _ _ h => h) (Or.inl ⟨by rfl, ?_⟩) ?_
    rotate_left 1
    ·intro w; go_simp <;> with_reducible rfl
    simp only [Act.put, List.setIfInBounds_toArray, List.set_cons_zero, List.set_cons_succ]
    refine Reg.take_at (i := 4) (d := 52) (v := ?_) rfl rfl (by kernel_rfl) (by kernel_rfl) (by kernel_rfl) (fun _ _ _ h => h) (Or.inl ⟨by rfl, ?_⟩) ?_
    rotate_left 1
    ·intro w; go_simp <;> with_reducible rfl
    simp only [Act.put, List.setIfInBounds_toArray, List.set_cons_zero, List.set_cons_succ]
    refine Reg.take_at (i := 5) (d := 53) (v := ?_) rfl rfl (by kernel_rfl) (by kernel_rfl) (by kernel_rfl) (fun _ _ _ h => h) (Or.inl ⟨by rfl, ?_⟩) ?_
    rotate_left 1
    ·intro w; go_simp <;> with_reducible rfl
    simp only [Act.put, List.setIfInBounds_toArray, List.set_cons_zero, List.set_cons_succ]
    refine wpAny_ready (rs := [1, 6]) (by decide +kernel) (by simp) ?_
    refine AllReady.cons rfl (fun KK hK => ?_) ?_
    ·go_simp
     refine hK _ _ ?_
     clear hK KK
     refine wpAny_ready (rs := [6]) (by decide +kernel) (by simp) ?_
     refine AllReady.cons rfl (fun KK hK => ?_) AllReady.nil
     go_simp
     refine hK _ _ ?_
     clear hK KK
     refine wpAny_ready (rs := [7]) (by decide +kernel) (by simp) ?_
     refine AllReady.cons rfl (fun KK hK => ?_) AllReady.nil
     go_simp
     (with_reducible refine (HKE.out).mono ?_)
     rintro e w9 ⟨rfl, h9, t9⟩
     go_simp
     refine hK _ _ ?_
     clear hK KK
     refine wpAny_done (by kernel_rfl) ?_ _
     have H9 := Lib.hid (h9.up (show m2 + 4000 ≤ m + 800000 by have := HM2.out; omega))
     have T9 := Lib.hid (Tu.out.step t9)
     clear h9 t9 y0 y1 y2 y3 g9
     go_wp2_with fail
     go_ret
     exact ⟨by rw [HEND.out]; rfl, ⟨S3, ⟨_, _, _, _, _, _, _, _, by rw [HEND.out]; exact H9.out.as HYE.out.2.symm rfl rfl rfl rfl HYE.out.1.symm rfl⟩, by rw [HEND.out]; exact HAG3.out⟩, T9.out⟩
    refine AllReady.cons rfl (fun KK hK => ?_) AllReady.nil
    go_simp
    refine hK _ _ ?_
    clear hK KK
    refine wpAny_ready (rs := [1]) (by decide +kernel) (by simp) ?_
    refine AllReady.cons rfl (fun KK hK => ?_) AllReady.nil
    go_simp
    refine hK _ _ ?_
    clear hK KK
    refine wpAny_ready (rs := [7]) (by decide +kernel) (by simp) ?_
    refine AllReady.cons rfl (fun KK hK => ?_) AllReady.nil
    go_simp
    (with_reducible refine (HKE.out).mono ?_)
    rintro e w9 ⟨rfl, h9, t9⟩
    go_simp
    refine hK _ _ ?_
    clear hK KK
    refine wpAny_done (by kernel_rfl) ?_ _
    have H9 := Lib.hid (h9.up (show m2 + 4000 ≤ m + 800000 by have := HM2.out; omega))
    have T9 := Lib.hid (Tu.out.step t9)
    clear h9 t9 y0 y1 y2 y3 g9
    go_wp2_with fail
    go_ret
    exact ⟨by rw [HEND.out]; rfl, ⟨S3, ⟨_, _, _, _, _, _, _, _, by rw [HEND.out]; exact H9.out.as HYE.out.2.symm rfl rfl rfl rfl HYE.out.1.symm rfl⟩, by rw [HEND.out]; exact HAG3.out⟩, T9.out⟩
   ·intro hq; exact absurd hq (by decide +kernel)
end
end Go.Proofs.YtpidnkfcccboaaaGreat.PagerCode
