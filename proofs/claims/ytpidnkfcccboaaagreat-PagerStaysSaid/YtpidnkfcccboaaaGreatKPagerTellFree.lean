/- The contract of the pager's tellFree. -/
import Derived.Test.YtpidnkfcccboaaaGreatKPagerCells
import Derived.Test.YtpidnkfcccboaaaGreatKPagerKeep
namespace Go.Proofs.YtpidnkfcccboaaaGreat.PagerCode
open Go.RowKit Base PagePlain PageSmall FreePlain FreeMem FreePages FreeOf SuperPlain SuperRefCheck PagerPlain PagerTold PagerNum PagerSpec PagerTellP SumOf DiskPlain DiskMem DiskSmall PagerMem PagerDisk Go.Maps

theorem rowT_rowP {lo : Nat} {w : World} {A : Option Addr} {cs : List ByteArray} (h : PagerCells.RowT lo w A cs) : RowP w (fun i => lo ≤ i) A (strs cs) := fun k v hv => by
 obtain ⟨ad, cur, e, hl, hb, hc⟩ := h k v hv
 exact ⟨ad, e, hl, FreeCells.lt_of_some hb, hc⟩
section
variable {W w w' : World} {p d g mp : Nat} {S : DS} {P P' : PS} {X Y G : Blks} {m m' : Int} {nn : Nat} {FD : Blks} {A B C : Option Addr} {a b c : Nat}
/-- the list with so many of the chain's pages -/
def frd (P : PS) (k : Nat) : Fs := (P.ch.take k).foldl (fun l n => ins n (P.x.ep + 1) l) P.fl
theorem frd_succ (P : PS) {k : Nat} (h : k < P.ch.length) : frd P (k + 1) = ins P.ch[k] (P.x.ep + 1) (frd P k) := by
 unfold frd
 rw [List.take_succ_eq_append_getElem h, List.foldl_append]
 rfl
theorem frd_all (P : PS) : ({ P with fl := frd P P.ch.length } : PS) = P.freed := by
 unfold frd PS.freed
 rw [List.take_length]
theorem go_frd {P : PS} (hi : Inv P) {k : Nat} (h : k < P.ch.length) : ({ P with fl := frd P k } : PS).go P.ch[k] = { P with fl := frd P (k + 1) } := by
 have hn : P.ch[k] ∉ P.nw := fun z => (hi.nr _ z).2.2.2.1 (List.getElem_mem h)
 unfold PS.go
 rw [if_neg hn, frd_succ P h]
/-- a page's cells out of the list's -/
theorem item_shape {ps : List Ps} {l : Fs} (h : PagesOf (cellsP ps) l) {Z : Blks} {w : World} (hr : ∀ q ∈ ps, RowP w Z q.1 (strs q.2.2)) (i : Nat) : ∃ KK cc, (ps.map psv).getD i (.slice none 0 0) = .slice KK (cellsAt l i).length cc ∧ RowP w Z KK (strs (cellsAt l i)) := by
 rw [← pages_at h i]
 by_cases hi : i < ps.length
 ·refine ⟨ps[i].1, ps[i].2.1, ?_, ?_⟩
  ·rw [getD_of (by simpa using hi), List.getElem_map, getD_of (by simpa [cellsP] using hi)]
   simp [cellsP, psv]
  ·rw [getD_of (by simpa [cellsP] using hi)]
   simpa [cellsP] using hr _ (List.getElem_mem hi)
 ·refine ⟨none, 0, ?_, ?_⟩
  ·simp [List.getD, cellsP, List.getElem?_eq_none (show ps.length ≤ i by omega)]
  ·rw [show (cellsP ps).getD i [] = [] by simp [List.getD, cellsP, List.getElem?_eq_none (show ps.length ≤ i by omega)]]
   exact RowP.nil
theorem cells_few {cs : FreePages.Cs} {l : Fs} (h : PagesOf cs l) : cs.length ≤ l.length := by
 have h1 : ∀ ds : FreePages.Cs, Shape ds → ds.length ≤ ds.flatten.length := by
  intro ds
  induction ds with
  | nil => intro _; simp
  | cons q ds ih =>
   intro hs
   have a := ih (shape_tail hs)
   have b := (shape_head hs).1
   simp only [List.length_cons, List.flatten_cons, List.length_append]
   omega
 have h2 := h1 cs h.1
 rw [h.2] at h2
 simpa [FreeCellsOf.texts] using h2
theorem takesV_count : ∀ (f : Nat) (V : PS) (c : List Int), (takesV f V c).2.length ≤ c.length + f
 | 0, V, c => Nat.le_refl _
 | f + 1, V, c => by
  simp only [takesV]
  split
  ·have := takesV_count f (takeV V).1 (c ++ [(takeV V).2])
   rw [List.length_append] at this
   simp only [List.length_cons, List.length_nil] at this
   omega
  ·simp only; omega
/-- what the disk is behind so many of the chain's pages -/
def Dsk (P R : PS) (c : List Int) (S : DS) (k : Nat) (Sk : DS) : Prop := (k = 0 ∧ Sk = S) ∨ (0 < k ∧ Agree Sk { P with fl := R.fl, pg := R.pg, len := R.len, rd := rdw (P.x.ep + 1) c R.fl P.rd k })
theorem dsk_step {P R : PS} {c : List Int} {S Sk : DS} {k : Nat} (h : Dsk P R c S k Sk) (ha : Agree S P) (hSk : Sk.Ok) (h1 : P.pg ≤ R.pg) (h2 : R.pg ≤ P.most) (h3 : R.len = max P.len R.pg) (hc : ∀ n ∈ c, 0 ≤ n ∧ n < R.pg) (hk : k < c.length) (he : err (chainPg (P.x.ep + 1) c R.fl k) = 0) :
  Agree (Sk.made R.pg (c.getD k 0) (page (chainPg (P.x.ep + 1) c R.fl k))) { P with fl := R.fl, pg := R.pg, len := R.len, rd := rdw (P.x.ep + 1) c R.fl P.rd (k + 1) } ∧
   (Sk.growE R.pg = 0 ∧ (Sk.grow R.pg).loose.length = Sk.loose.length ∧ (Sk.grow R.pg).writeE (c.getD k 0) (page (chainPg (P.x.ep + 1) c R.fl k)) = 0 ∧ (Sk.made R.pg (c.getD k 0) (page (chainPg (P.x.ep + 1) c R.fl k))).loose.length = (Sk.grow R.pg).loose.length + 1) := by
 have hno := hc _ (by rw [getD_of hk]; exact List.getElem_mem hk : c.getD k 0 ∈ c)
 rcases h with ⟨rfl, rfl⟩ | ⟨hk0, hag⟩
 ·exact made_agree ha hSk (page_256 he) h1 h2 hno.1 hno.2 rfl rfl h3 rfl
 ·exact made_agree hag hSk (page_256 he) (Int.le_refl _) h2 hno.1 hno.2 rfl rfl (by show R.len = max R.len R.pg; omega) rfl
set_option maxRecDepth 100000 in
set_option maxHeartbeats 25600000 in
theorem tellFree_full (h : Cr W p d g mp S P X m nn FD A B C a b c) (ha : Agree S P) (hf : Fine P m) {R : PS} {ds : List Int} (ht : takes (P.freed.fl.length + 1) P.freed [] = (R, ds, false)) :
  Calls Tryz.prog 52 #[.pointer (some ⟨p, 0, none⟩)] W fun e w' => e = .returned (.tuple #[.slice none 0 0, .int .i64 82]) ∧ (∃ V, Cw w' p d g mp S V X (m + 700000) ∧ V.x = P.x ∧ V.ch = P.ch ∧ V.tf = P.tf ∧ V.od = P.od) ∧ Turn (Not X) W w' := by
 have hi := hf.inv
 have i1 := hi.len
 have i2 := hi.most
 have i3 := hf.few
 have i4 := hi.xg
 have i5 := hi.xp
 have i6 := hi.ep
 have i7 := hf.ep
 have i8 := hf.m1
 have i9 := few_free hi
 have hif := hi.freed
 have j1 := few_free hif
 have j2 : (P.freed.fl.length : Int) ≤ 300 := by have : P.freed.pg = P.pg := rfl; omega
 have hchl : P.ch.length ≤ 300 := by
  have h1 := hi.cn.length_le_of_subset (l₂ := FreeCov.rng (P.pg - 2).toNat) fun c hc => by
   have := hi.tc c hc
   exact FreeCov.mem_rng.2 ⟨by omega, by omega⟩
  rw [FreeCov.len_rng] at h1
  omega
 have hm := takes_many _ hif ht
 have hkp : P.pg ≤ R.pg := hm.kept.pg
 obtain ⟨htT, htF⟩ := takes_V (P.freed.fl.length + 1) P.freed P.freed [] rfl rfl rfl (show P.pg ≤ P.most by omega)
 obtain ⟨V, dv, hV⟩ : ∃ V dv, takesV (P.freed.fl.length + 1) P.freed [] = (V, dv) := ⟨_, _, rfl⟩
 have hVk := takesV_kept (P.freed.fl.length + 1) P.freed []
 rw [hV] at hVk
 have hVs := takesV_sub (P.freed.fl.length + 1) P.freed []
 rw [hV] at hVs
 have hgd := gd_freed hif (show P.x.ep ≤ 4000000000 by omega) hVs
 have hVin := takesV_in (P.freed.fl.length + 1) P.freed [] (by simp) (fun q hq => by have := hif.fr q hq; have e : P.freed.pg = P.pg := rfl; omega) (show 0 ≤ P.pg by omega) (show P.pg + ((P.freed.fl.length + 1 : Nat) : Int) ≤ 100000 by push_cast; omega)
 rw [hV] at hVin
 simp only at hVk hVs hgd hVin
 have hVl : V.fl.length ≤ 300 := by have := hVs.length_le; omega
 have hT := htF R ds ht
 rw [hV] at hT
 simp only [List.length_nil] at hT
 have herr : ∀ i, err (chainPg (P.x.ep + 1) dv V.fl i) = 0 := fun i => chain_err (by omega) (by omega) hVin
 have hVx : V.x = P.x ∧ V.ch = P.ch ∧ V.tf = P.tf ∧ V.od = P.od := by rw [hVk]; exact ⟨rfl, rfl, rfl, rfl⟩
 have HFI := Lib.hid (And.intro (show S.most < V.pg by rw [ha.most]; exact hT.1) (And.intro herr (And.intro hT.2 hVx)))
 have hdl0 : dv.length ≤ 2000 := by have := takesV_count (P.freed.fl.length + 1) P.freed []; rw [hV] at this; simp only [List.length_nil] at this; omega
 have HDL := Lib.hid hdl0
 clear hdl0
 have HVL := Lib.hid hVl
 have c3 := (pgc h.st).2.1.1
 have c8 := (pgc h.st).2.2.2.1
 have hep : (P.x.ep == 4294967295) = false := by simp; omega
 have HB := Lib.hid h.rb
 have HH := Lib.hid h
 have HI := Lib.hid hi
 have HA := Lib.hid ha
 have HGD := Lib.hid hgd
 have HV := Lib.hid hV
 have HR := Lib.hid (fun k => (freed_rise (P.x.ep + 1) (P.ch.take k) P.fl hi.rise : Rise (frd P k)))
 have HL := Lib.hid (fun k => show (frd P k).length ≤ 1000 from by have := freed_len (P.x.ep + 1) (P.ch.take k) P.fl; unfold frd; rw [List.length_take] at this; omega)
 have HTC := Lib.hid (fun (k : Nat) (hk : k < P.ch.length) => show In P.ch[k] from by have := hi.tc _ (List.getElem_mem hk); unfold In; omega)
 have HP := Lib.hid (And.intro i6 (And.intro i7 (And.intro i8 (And.intro j2 (show 0 ≤ P.freed.pg ∧ P.freed.pg ≤ 5000 from ⟨by show 0 ≤ P.pg; omega, by show P.pg ≤ 5000; omega⟩)))))
 have hm0 := hf.m0
 clear h ha hi hif ht hm hkp htT htF hV hVk hVs hgd hVin i1 i2 i3 i4 i5 i9 j1 j2 hVl hT herr hVx
 go_enter Tryz.func52, Tryz.ntmps52
 go_wp2_with fail
 clear c3 c8 hep
 go_loopw [22] (fun i wr => ∃ (k : Nat) (C' : Option Addr) (c' : Nat), k ≤ P.ch.length ∧ i = .int .i64 k ∧ Hid (Cr wr p d g mp S { P with fl := frd P k } X m nn FD A B C' a b c') ∧ Hid (Turn (Not X) W wr)) (fun i _ => P.ch.length - (intOf i).toNat)
 case atStart => exact ⟨0, C, c, by omega, rfl, HH.out, Turn.refl _ _⟩
 case round =>
  obtain ⟨k, C', c', hk, rfl, HC, HT⟩ := hrel
  by_cases hlt : k < P.ch.length
  ·obtain ⟨ad, hB, _, _, hcl⟩ := HC.out.rb k (.int .i64 P.ch[k]) (by simp [intsV, hlt])
   subst hB
   have hcall := letGo_any HC.out (HR.out k) (HL.out k) (by have := HP.out.1; show 0 ≤ P.x.ep; omega) (by have := HP.out.2.1; show P.x.ep ≤ _; omega) P.ch[k] (HTC.out k hlt)
   rw [go_frd HI.out hlt] at hcall
   have HT1 := HT
   generalize P.ch[k] = no at *
   clear HT
   go_wp2_with fail
   (with_reducible refine hcall.mono ?_)
   clear hcall hcl
   rintro e w1 ⟨rfl, ⟨C2, c2, h2⟩, t2⟩
   have H2 := Lib.hid h2
   have T2 := Lib.hid (HT1.out.step t2)
   clear h2 t2
   go_wp2_with fail
   go_roundw
   case rel => exact ⟨k + 1, C2, c2, by omega, by go_num, H2.out, T2.out⟩
   case measure => simp [intOf]; omega
  ·obtain rfl : k = P.ch.length := by omega
   have hCr : Cr wr p d g mp S P.freed X m nn FD A B C' a b c' := by rw [← frd_all]; exact HC.out
   have hcall := takeChain_any hCr (by have := HP.out.2.2.2.1; omega) HP.out.2.2.2.2.1 HP.out.2.2.2.2.2
   rw [HV.out] at hcall
   simp only at hcall
   have HT1 := HT
   have HCX := Lib.hid hCr.xl
   clear HC HT hk hlt hCr HR HL HTC HI HB HH
   go_wp2_with fail
   (with_reducible refine hcall.mono ?_)
   clear hcall
   rintro e w1 ⟨K, ck, C1, c1, rfl, h1, t1, r1, hck⟩
   have T1 := Lib.hid (HT1.out.step t1)
   have HSZ := Lib.hid t1.size
   have HWZ := Lib.hid HT1.out.size
   have d9 := (pgc h1.st).2.2.2.2.1
   have hcall := PagerCells.cellsT_any w1 C1 V.fl.length c1 V.fl rfl h1.lc h1.rc.row (by have := HVL.out; omega)
   clear t1 HT1
   go_wp2_with fail
   (with_reducible refine hcall.mono ?_)
   clear hcall d9
   rintro e w2 ⟨b2, hres⟩
   rcases hres with ⟨_, KC, mc, cc, cs, rfl, hmc, hot, hpg⟩ | ⟨hno, _⟩
   rotate_left
   ·exact absurd HGD.out hno
   obtain ⟨ps, rfl, hop, hrp⟩ := hot
   have h2 := h1.more b2
   have rK : RowP w2 (fun i => Plus (With X K) w1 w2 i ∧ ¬ X i) K (intsV dv) := fun k v hv => by
    obtain ⟨ad, e1, e2, e3, e4⟩ := (r1.below b2) k v hv
    exact ⟨ad, e1, ⟨Or.inl (Or.inr (by rw [e1]; rfl)), fun z => by have := HCX.out _ z; omega⟩, e3, e4⟩
   have rO : RowP w2 (Plus (With X K) w1 w2) KC (ps.map psv) := fun k v hv => by
    obtain ⟨ad, e1, e2, e3, e4⟩ := own_rowP_ hop k v hv
    exact ⟨ad, e1, Or.inr ⟨e2, e3⟩, e3, e4⟩
   have rI : ∀ q ∈ ps, RowP w2 (Plus (With X K) w1 w2) q.1 (strs q.2.2) := fun q hq k v hv => by
    obtain ⟨ad, e1, e2, e3, e4⟩ := rowT_rowP (hrp q hq) k v hv
    exact ⟨ad, e1, Or.inr ⟨e2, e3⟩, e3, e4⟩
   have HXY := Lib.hid (show ∀ i, X i → Plus (With X K) w1 w2 i from fun i hi => Or.inl (Or.inl hi))
   have T2 := Lib.hid (T1.out.step (Turn.ofBelow b2))
   have hpl : mc = (ps.map psv).length := by rw [hmc]; simp [cellsP]
   have HMC := Lib.hid hpl
   have HMC := Lib.hid hpl
   have HML := Lib.hid (show (ps.map psv).length ≤ 100000 from by
    have h3 := cells_few hpg
    rw [List.length_map]
    simp only [cellsP, List.length_map] at h3
    have := HVL.out
    skip
    omega)
   have HPG := Lib.hid hpg
   have HRK := Lib.hid rK
   have HRO := Lib.hid rO
   have HRI := Lib.hid rI
   have H2 := Lib.hid h2
   have HCK := Lib.hid hck
   clear h1 h2 b2 r1 rK rO rI hop hrp hmc hpl hpg hck HSZ HWZ T1
   generalize Plus (With X K) w1 w2 = Y at *
   go_wp2_with fail
   go_loopw [45] (fun i wr => ∃ k : Nat, i = .int .i64 k ∧ Hid (k = 0) ∧ Hid (wr = w2)) (fun i _ => 1)
   case atStart => exact ⟨0, rfl, show Hid _ from rfl, show Hid _ from rfl⟩
   case round =>
    obtain ⟨k, rfl, hk0, hwr0⟩ := hrel
    have hlt : k < dv.length := by rw [hk0.out]; exact HFI.out.2.2.1
    have HCk : Hid (Cr wr p d g mp S V Y m nn FD A B C1 a b c1) := by rw [hwr0.out]; exact H2.out
    have HTk : Hid (Turn (Not Y) w2 wr) := by rw [hwr0.out]; exact Turn.refl _ _
    have hdl : dv.length ≤ 100000 := by have := HDL.out; omega
    clear hwr0 hk0
    go_upto_region 15 with fail
    refine wp_region_any (by kernel_rfl) ?_
    change wpAny _ _ _ _ _ _ _ (World.drew _)
    generalize hu0 : World.drew wr = u0
    have hCu : Cr u0 p d g mp S V Y m nn FD A B C1 a b c1 := by rw [← hu0]; exact HCk.out.below (Below.refl _ _).drew
    have Tu := Lib.hid (show Turn (Not Y) w2 u0 by rw [← hu0]; exact HTk.out.step (Turn.ofBelow (Below.refl _ _).drew))
    have rKu := HRK.out.turn Tu.out fun _ q z => z q.1
    have rOu := HRO.out.turn Tu.out fun _ q z => z q
    have rIu := fun q hq => (HRI.out q hq).turn Tu.out fun _ q z => z q
    obtain ⟨ad, hB, _, _, hcl⟩ := rKu k (.int .i64 (dv.getD k 0)) (by rw [getD_of hlt]; simp [intsV, hlt])
    subst hB
    have g2 := (pgc hCu.st).1.2.2
    have hwrap : IntKind.i64.wrap ((k : Int) + 1) = (k : Int) + 1 := IntWalk.i64_in _ (by omega)
    obtain ⟨KK, cK, hval, hrw⟩ := item_shape HPG.out rIu k
    have HIT := Lib.hid (itemI_any u0 (some ad) dv.length ck dv (k + 1) ((k : Int) + 1) (by push_cast; rfl) rfl rKu.row (by omega))
    have hits := itemS_any u0 KC mc cc (ps.map psv) k (k : Int) (by push_cast; rfl) HMC.out rOu.row HML.out
    rw [hval] at hits
    have HIS := Lib.hid hits
    have hwr := write_full hCu (by have := HP.out.1; rw [HFI.out.2.2.2.1]; omega) (by have := HP.out.2.1; rw [HFI.out.2.2.2.1]; omega) (by have := HP.out.2.2.1; omega) (dv.getD k 0) V.pg 3 (dv.getD (k + 1) 0) KK cK (cellsAt V.fl k) ⟨by have := cellsAt_len V.fl k; omega, fun q hq => by have := cellsAt_size q hq; omega⟩ hrw (by have := HFI.out.2.1 k; rw [← HFI.out.2.2.2.1] at this; exact this) HFI.out.1
    have HWR := Lib.hid hwr
    clear hCu rKu rOu rIu hits hval hwr hu0 hrw HCk HTk
    generalize dv.getD k 0 = z1 at *
    generalize dv.getD (k + 1) 0 = z2 at *
    refine Reg.take_at (i := 0) (d := 48) (v := ?_) rfl rfl (by kernel_rfl) (by kernel_rfl) (by kernel_rfl) (fun _ _ _ h => h) (Or.inl ⟨by rfl, ?_⟩) ?_
    rotate_left 1
    ·intro w; go_simp <;> with_reducible rfl
    simp only [Act.put, List.setIfInBounds_toArray, List.set_cons_zero, List.set_cons_succ]
    refine Reg.take_at (i := 1) (d := 49) (v := ?_) rfl rfl (by kernel_rfl) (by kernel_rfl) (by kernel_rfl) (fun _ _ _ h => h) (Or.inl ⟨by rfl, ?_⟩) ?_
    rotate_left 1
    ·intro w; go_simp <;> with_reducible rfl
    simp only [Act.put, List.setIfInBounds_toArray, List.set_cons_zero, List.set_cons_succ]
    refine Reg.take_at (i := 2) (d := 50) (v := ?_) rfl rfl (by kernel_rfl) (by kernel_rfl) (by kernel_rfl) (fun _ _ _ h => h) (Or.inl ⟨by rfl, ?_⟩) ?_
    rotate_left 1
    ·intro w; go_simp <;> with_reducible rfl
    simp only [Act.put, List.setIfInBounds_toArray, List.set_cons_zero, List.set_cons_succ]
    refine Reg.take_at (i := 3) (d := 51) (v := ?_) rfl rfl (by kernel_rfl) (by kernel_rfl) (by kernel_rfl) (fun _ _ _ h => h) (Or.inl ⟨by rfl, ?_⟩) ?_
    rotate_left 1
    ·intro w; go_simp <;> with_reducible rfl
    simp only [Act.put, List.setIfInBounds_toArray, List.set_cons_zero, List.set_cons_succ]
    refine Reg.take_at (i := 5) (d := 53) (v := ?_) rfl rfl (by kernel_rfl) (by kernel_rfl) (by kernel_rfl) (fun _ _ _ h => h) (Or.inl ⟨by rfl, ?_⟩) ?_
    rotate_left 1
    ·intro w; go_simp <;> with_reducible rfl
    simp only [Act.put, List.setIfInBounds_toArray, List.set_cons_zero, List.set_cons_succ]
    refine Reg.take_at (i := 6) (d := 54) (v := ?_) rfl rfl (by kernel_rfl) (by kernel_rfl) (by kernel_rfl) (fun _ _ _ h => h) (Or.inl ⟨by rfl, ?_⟩) ?_
    rotate_left 1
    ·intro w; go_simp <;> with_reducible rfl
    simp only [Act.put, List.setIfInBounds_toArray, List.set_cons_zero, List.set_cons_succ]
    refine Reg.take_at (i := 7) (d := 55) (v := ?_) rfl rfl (by kernel_rfl) (by kernel_rfl) (by kernel_rfl) (fun _ _ _ h => h) (Or.inl ⟨by rfl, ?_⟩) ?_
    rotate_left 1
    ·intro w; go_simp <;> with_reducible rfl
    simp only [Act.put, List.setIfInBounds_toArray, List.set_cons_zero, List.set_cons_succ]
    refine Reg.take_at (i := 8) (d := 56) (v := ?_) rfl rfl (by kernel_rfl) (by kernel_rfl) (by kernel_rfl) (fun _ _ _ h => h) (Or.inl ⟨by rfl, ?_⟩) ?_
    rotate_left 1
    ·intro w; go_simp <;> with_reducible rfl
    simp only [Act.put, List.setIfInBounds_toArray, List.set_cons_zero, List.set_cons_succ]
    refine Reg.take_at (i := 10) (d := 58) (v := ?_) rfl rfl (by kernel_rfl) (by kernel_rfl) (by kernel_rfl) (fun _ _ _ h => h) (Or.inl ⟨by rfl, ?_⟩) ?_
    rotate_left 1
    ·intro w; go_simp <;> with_reducible rfl
    simp only [Act.put, List.setIfInBounds_toArray, List.set_cons_zero, List.set_cons_succ]
    refine Reg.take_at (i := 11) (d := 59) (v := ?_) rfl rfl (by kernel_rfl) (by kernel_rfl) (by kernel_rfl) (fun _ _ _ h => h) (Or.inl ⟨by rfl, ?_⟩) ?_
    rotate_left 1
    ·intro w; go_simp <;> with_reducible rfl
    simp only [Act.put, List.setIfInBounds_toArray, List.set_cons_zero, List.set_cons_succ]
    refine Reg.take_at (i := 12) (d := 60) (v := ?_) rfl rfl (by kernel_rfl) (by kernel_rfl) (by kernel_rfl) (fun _ _ _ h => h) (Or.inl ⟨by rfl, ?_⟩) ?_
    rotate_left 1
    ·intro w; go_simp <;> with_reducible rfl
    simp only [Act.put, List.setIfInBounds_toArray, List.set_cons_zero, List.set_cons_succ]
    refine Reg.take_at (i := 14) (d := 62) (v := ?_) rfl rfl (by kernel_rfl) (by kernel_rfl) (by kernel_rfl) (fun _ _ _ h => h) (Or.inl ⟨by rfl, ?_⟩) ?_
    rotate_left 1
    ·intro w; go_simp <;> with_reducible rfl
    simp only [Act.put, List.setIfInBounds_toArray, List.set_cons_zero, List.set_cons_succ]
    refine Reg.take_at (i := 15) (d := 63) (v := ?_) rfl rfl (by kernel_rfl) (by kernel_rfl) (by kernel_rfl) (fun _ _ _ h => h) (Or.inl ⟨by rfl, ?_⟩) ?_
    rotate_left 1
    ·intro w; go_simp <;> with_reducible rfl
    simp only [Act.put, List.setIfInBounds_toArray, List.set_cons_zero, List.set_cons_succ]
    refine wpAny_ready (rs := [4, 9, 13]) (by decide +kernel) (by simp) ?_
    refine AllReady.cons rfl (fun KK hK => ?_) ?_
    ·go_simp
     refine hK _ _ ?_
     clear hK KK
     refine wpAny_ready (rs := [9, 13]) (by decide +kernel) (by simp) ?_
     refine AllReady.cons rfl (fun KK hK => ?_) ?_
     ·go_simp
      refine hK _ _ ?_
      clear hK KK
      refine wpAny_ready (rs := [13]) (by decide +kernel) (by simp) ?_
      refine AllReady.cons rfl (fun KK hK => ?_) AllReady.nil
      go_simp
      (with_reducible refine (HIT.out).mono ?_)
      rintro e u9 ⟨rfl, rfl⟩
      go_simp
      refine hK _ _ ?_
      clear hK KK
      refine wpAny_ready (rs := [16]) (by decide +kernel) (by simp) ?_
      refine AllReady.cons rfl (fun KK hK => ?_) AllReady.nil
      go_simp
      (with_reducible refine (HIS.out).mono ?_)
      rintro e u9 ⟨rfl, rfl⟩
      go_simp
      refine hK _ _ ?_
      clear hK KK
      refine wpAny_ready (rs := [17]) (by decide +kernel) (by simp) ?_
      refine AllReady.cons rfl (fun KK hK => ?_) AllReady.nil
      go_simp
      (with_reducible refine (HWR.out).mono ?_)
      rintro e u1 ⟨rfl, ⟨F3, h3⟩, t3⟩
      go_simp
      refine hK _ _ ?_
      clear hK KK
      refine Reg.take_at (i := 18) (d := 10) (v := ?_) rfl rfl (by kernel_rfl) (by kernel_rfl) (by kernel_rfl) (fun _ _ _ h => h) (Or.inl ⟨by rfl, ?_⟩) ?_
      rotate_left 1
      ·intro w; go_simp <;> with_reducible rfl
      simp only [Act.put, List.setIfInBounds_toArray, List.set_cons_zero, List.set_cons_succ]
      refine wpAny_done (by kernel_rfl) ?_ _
      have H3 := Lib.hid ((h3.less HXY.out).up (show m + 1000 ≤ m + 700000 by omega))
      have T3 := Lib.hid (T2.out.step ((Tu.out.step t3).mono fun i _ hi hx => hi (HXY.out i hx)))
      clear h3 t3 hcl g2
      go_wp2_with fail
      go_ret2
      exact ⟨rfl, ⟨V, ⟨_, _, _, _, _, _, _, _, H3.out⟩, HFI.out.2.2.2⟩, T3.out⟩
     refine AllReady.cons rfl (fun KK hK => ?_) AllReady.nil
     go_simp
     (with_reducible refine (HIT.out).mono ?_)
     rintro e u9 ⟨rfl, rfl⟩
     go_simp
     refine hK _ _ ?_
     clear hK KK
     refine wpAny_ready (rs := [9, 16]) (by decide +kernel) (by simp) ?_
     refine AllReady.cons rfl (fun KK hK => ?_) ?_
     ·go_simp
      refine hK _ _ ?_
      clear hK KK
      refine wpAny_ready (rs := [16]) (by decide +kernel) (by simp) ?_
      refine AllReady.cons rfl (fun KK hK => ?_) AllReady.nil
      go_simp
      (with_reducible refine (HIS.out).mono ?_)
      rintro e u9 ⟨rfl, rfl⟩
      go_simp
      refine hK _ _ ?_
      clear hK KK
      refine wpAny_ready (rs := [17]) (by decide +kernel) (by simp) ?_
      refine AllReady.cons rfl (fun KK hK => ?_) AllReady.nil
      go_simp
      (with_reducible refine (HWR.out).mono ?_)
      rintro e u1 ⟨rfl, ⟨F3, h3⟩, t3⟩
      go_simp
      refine hK _ _ ?_
      clear hK KK
      refine Reg.take_at (i := 18) (d := 10) (v := ?_) rfl rfl (by kernel_rfl) (by kernel_rfl) (by kernel_rfl) (fun _ _ _ h => h) (Or.inl ⟨by rfl, ?_⟩) ?_
      rotate_left 1
      ·intro w; go_simp <;> with_reducible rfl
      simp only [Act.put, List.setIfInBounds_toArray, List.set_cons_zero, List.set_cons_succ]
      refine wpAny_done (by kernel_rfl) ?_ _
      have H3 := Lib.hid ((h3.less HXY.out).up (show m + 1000 ≤ m + 700000 by omega))
      have T3 := Lib.hid (T2.out.step ((Tu.out.step t3).mono fun i _ hi hx => hi (HXY.out i hx)))
      clear h3 t3 hcl g2
      go_wp2_with fail
      go_ret2
      exact ⟨rfl, ⟨V, ⟨_, _, _, _, _, _, _, _, H3.out⟩, HFI.out.2.2.2⟩, T3.out⟩
     refine AllReady.cons rfl (fun KK hK => ?_) AllReady.nil
     go_simp
     (with_reducible refine (HIS.out).mono ?_)
     rintro e u9 ⟨rfl, rfl⟩
     go_simp
     refine hK _ _ ?_
     clear hK KK
     refine wpAny_ready (rs := [9]) (by decide +kernel) (by simp) ?_
     refine AllReady.cons rfl (fun KK hK => ?_) AllReady.nil
     go_simp
     refine hK _ _ ?_
     clear hK KK
     refine wpAny_ready (rs := [17]) (by decide +kernel) (by simp) ?_
     refine AllReady.cons rfl (fun KK hK => ?_) AllReady.nil
     go_simp
     (with_reducible refine (HWR.out).mono ?_)
     rintro e u1 ⟨rfl, ⟨F3, h3⟩, t3⟩
     go_simp
     refine hK _ _ ?_
     clear hK KK
     refine Reg.take_at (i := 18) (d := 10) (v := ?_) rfl rfl (by kernel_rfl) (by kernel_rfl) (by kernel_rfl) (fun _ _ _ h => h) (Or.inl ⟨by rfl, ?_⟩) ?_
     rotate_left 1
     ·intro w; go_simp <;> with_reducible rfl
     simp only [Act.put, List.setIfInBounds_toArray, List.set_cons_zero, List.set_cons_succ]
     refine wpAny_done (by kernel_rfl) ?_ _
     have H3 := Lib.hid ((h3.less HXY.out).up (show m + 1000 ≤ m + 700000 by omega))
     have T3 := Lib.hid (T2.out.step ((Tu.out.step t3).mono fun i _ hi hx => hi (HXY.out i hx)))
     clear h3 t3 hcl g2
     go_wp2_with fail
     go_ret2
     exact ⟨rfl, ⟨V, ⟨_, _, _, _, _, _, _, _, H3.out⟩, HFI.out.2.2.2⟩, T3.out⟩
    refine AllReady.cons rfl (fun KK hK => ?_) ?_
    ·go_simp
     refine hK _ _ ?_
     clear hK KK
     refine wpAny_ready (rs := [4, 13]) (by decide +kernel) (by simp) ?_
     refine AllReady.cons rfl (fun KK hK => ?_) ?_
     ·go_simp
      refine hK _ _ ?_
      clear hK KK
      refine wpAny_ready (rs := [13]) (by decide +kernel) (by simp) ?_
      refine AllReady.cons rfl (fun KK hK => ?_) AllReady.nil
      go_simp
      (with_reducible refine (HIT.out).mono ?_)
      rintro e u9 ⟨rfl, rfl⟩
      go_simp
      refine hK _ _ ?_
      clear hK KK
      refine wpAny_ready (rs := [16]) (by decide +kernel) (by simp) ?_
      refine AllReady.cons rfl (fun KK hK => ?_) AllReady.nil
      go_simp
      (with_reducible refine (HIS.out).mono ?_)
      rintro e u9 ⟨rfl, rfl⟩
      go_simp
      refine hK _ _ ?_
      clear hK KK
      refine wpAny_ready (rs := [17]) (by decide +kernel) (by simp) ?_
      refine AllReady.cons rfl (fun KK hK => ?_) AllReady.nil
      go_simp
      (with_reducible refine (HWR.out).mono ?_)
      rintro e u1 ⟨rfl, ⟨F3, h3⟩, t3⟩
      go_simp
      refine hK _ _ ?_
      clear hK KK
      refine Reg.take_at (i := 18) (d := 10) (v := ?_) rfl rfl (by kernel_rfl) (by kernel_rfl) (by kernel_rfl) (fun _ _ _ h => h) (Or.inl ⟨by rfl, ?_⟩) ?_
      rotate_left 1
      ·intro w; go_simp <;> with_reducible rfl
      simp only [Act.put, List.setIfInBounds_toArray, List.set_cons_zero, List.set_cons_succ]
      refine wpAny_done (by kernel_rfl) ?_ _
      have H3 := Lib.hid ((h3.less HXY.out).up (show m + 1000 ≤ m + 700000 by omega))
      have T3 := Lib.hid (T2.out.step ((Tu.out.step t3).mono fun i _ hi hx => hi (HXY.out i hx)))
      clear h3 t3 hcl g2
      go_wp2_with fail
      go_ret2
      exact ⟨rfl, ⟨V, ⟨_, _, _, _, _, _, _, _, H3.out⟩, HFI.out.2.2.2⟩, T3.out⟩
     refine AllReady.cons rfl (fun KK hK => ?_) AllReady.nil
     go_simp
     (with_reducible refine (HIT.out).mono ?_)
     rintro e u9 ⟨rfl, rfl⟩
     go_simp
     refine hK _ _ ?_
     clear hK KK
     refine wpAny_ready (rs := [4, 16]) (by decide +kernel) (by simp) ?_
     refine AllReady.cons rfl (fun KK hK => ?_) ?_
     ·go_simp
      refine hK _ _ ?_
      clear hK KK
      refine wpAny_ready (rs := [16]) (by decide +kernel) (by simp) ?_
      refine AllReady.cons rfl (fun KK hK => ?_) AllReady.nil
      go_simp
      (with_reducible refine (HIS.out).mono ?_)
      rintro e u9 ⟨rfl, rfl⟩
      go_simp
      refine hK _ _ ?_
      clear hK KK
      refine wpAny_ready (rs := [17]) (by decide +kernel) (by simp) ?_
      refine AllReady.cons rfl (fun KK hK => ?_) AllReady.nil
      go_simp
      (with_reducible refine (HWR.out).mono ?_)
      rintro e u1 ⟨rfl, ⟨F3, h3⟩, t3⟩
      go_simp
      refine hK _ _ ?_
      clear hK KK
      refine Reg.take_at (i := 18) (d := 10) (v := ?_) rfl rfl (by kernel_rfl) (by kernel_rfl) (by kernel_rfl) (fun _ _ _ h => h) (Or.inl ⟨by rfl, ?_⟩) ?_
      rotate_left 1
      ·intro w; go_simp <;> with_reducible rfl
      simp only [Act.put, List.setIfInBounds_toArray, List.set_cons_zero, List.set_cons_succ]
      refine wpAny_done (by kernel_rfl) ?_ _
      have H3 := Lib.hid ((h3.less HXY.out).up (show m + 1000 ≤ m + 700000 by omega))
      have T3 := Lib.hid (T2.out.step ((Tu.out.step t3).mono fun i _ hi hx => hi (HXY.out i hx)))
      clear h3 t3 hcl g2
      go_wp2_with fail
      go_ret2
      exact ⟨rfl, ⟨V, ⟨_, _, _, _, _, _, _, _, H3.out⟩, HFI.out.2.2.2⟩, T3.out⟩
     refine AllReady.cons rfl (fun KK hK => ?_) AllReady.nil
     go_simp
     (with_reducible refine (HIS.out).mono ?_)
     rintro e u9 ⟨rfl, rfl⟩
     go_simp
     refine hK _ _ ?_
     clear hK KK
     refine wpAny_ready (rs := [4]) (by decide +kernel) (by simp) ?_
     refine AllReady.cons rfl (fun KK hK => ?_) AllReady.nil
     go_simp
     refine hK _ _ ?_
     clear hK KK
     refine wpAny_ready (rs := [17]) (by decide +kernel) (by simp) ?_
     refine AllReady.cons rfl (fun KK hK => ?_) AllReady.nil
     go_simp
     (with_reducible refine (HWR.out).mono ?_)
     rintro e u1 ⟨rfl, ⟨F3, h3⟩, t3⟩
     go_simp
     refine hK _ _ ?_
     clear hK KK
     refine Reg.take_at (i := 18) (d := 10) (v := ?_) rfl rfl (by kernel_rfl) (by kernel_rfl) (by kernel_rfl) (fun _ _ _ h => h) (Or.inl ⟨by rfl, ?_⟩) ?_
     rotate_left 1
     ·intro w; go_simp <;> with_reducible rfl
     simp only [Act.put, List.setIfInBounds_toArray, List.set_cons_zero, List.set_cons_succ]
     refine wpAny_done (by kernel_rfl) ?_ _
     have H3 := Lib.hid ((h3.less HXY.out).up (show m + 1000 ≤ m + 700000 by omega))
     have T3 := Lib.hid (T2.out.step ((Tu.out.step t3).mono fun i _ hi hx => hi (HXY.out i hx)))
     clear h3 t3 hcl g2
     go_wp2_with fail
     go_ret2
     exact ⟨rfl, ⟨V, ⟨_, _, _, _, _, _, _, _, H3.out⟩, HFI.out.2.2.2⟩, T3.out⟩
    refine AllReady.cons rfl (fun KK hK => ?_) AllReady.nil
    go_simp
    (with_reducible refine (HIT.out).mono ?_)
    rintro e u9 ⟨rfl, rfl⟩
    go_simp
    refine hK _ _ ?_
    clear hK KK
    refine wpAny_ready (rs := [4, 9, 16]) (by decide +kernel) (by simp) ?_
    refine AllReady.cons rfl (fun KK hK => ?_) ?_
    ·go_simp
     refine hK _ _ ?_
     clear hK KK
     refine wpAny_ready (rs := [9, 16]) (by decide +kernel) (by simp) ?_
     refine AllReady.cons rfl (fun KK hK => ?_) ?_
     ·go_simp
      refine hK _ _ ?_
      clear hK KK
      refine wpAny_ready (rs := [16]) (by decide +kernel) (by simp) ?_
      refine AllReady.cons rfl (fun KK hK => ?_) AllReady.nil
      go_simp
      (with_reducible refine (HIS.out).mono ?_)
      rintro e u9 ⟨rfl, rfl⟩
      go_simp
      refine hK _ _ ?_
      clear hK KK
      refine wpAny_ready (rs := [17]) (by decide +kernel) (by simp) ?_
      refine AllReady.cons rfl (fun KK hK => ?_) AllReady.nil
      go_simp
      (with_reducible refine (HWR.out).mono ?_)
      rintro e u1 ⟨rfl, ⟨F3, h3⟩, t3⟩
      go_simp
      refine hK _ _ ?_
      clear hK KK
      refine Reg.take_at (i := 18) (d := 10) (v := ?_) rfl rfl (by kernel_rfl) (by kernel_rfl) (by kernel_rfl) (fun _ _ _ h => h) (Or.inl ⟨by rfl, ?_⟩) ?_
      rotate_left 1
      ·intro w; go_simp <;> with_reducible rfl
      simp only [Act.put, List.setIfInBounds_toArray, List.set_cons_zero, List.set_cons_succ]
      refine wpAny_done (by kernel_rfl) ?_ _
      have H3 := Lib.hid ((h3.less HXY.out).up (show m + 1000 ≤ m + 700000 by omega))
      have T3 := Lib.hid (T2.out.step ((Tu.out.step t3).mono fun i _ hi hx => hi (HXY.out i hx)))
      clear h3 t3 hcl g2
      go_wp2_with fail
      go_ret2
      exact ⟨rfl, ⟨V, ⟨_, _, _, _, _, _, _, _, H3.out⟩, HFI.out.2.2.2⟩, T3.out⟩
     refine AllReady.cons rfl (fun KK hK => ?_) AllReady.nil
     go_simp
     (with_reducible refine (HIS.out).mono ?_)
     rintro e u9 ⟨rfl, rfl⟩
     go_simp
     refine hK _ _ ?_
     clear hK KK
     refine wpAny_ready (rs := [9]) (by decide +kernel) (by simp) ?_
     refine AllReady.cons rfl (fun KK hK => ?_) AllReady.nil
     go_simp
     refine hK _ _ ?_
     clear hK KK
     refine wpAny_ready (rs := [17]) (by decide +kernel) (by simp) ?_
     refine AllReady.cons rfl (fun KK hK => ?_) AllReady.nil
     go_simp
     (with_reducible refine (HWR.out).mono ?_)
     rintro e u1 ⟨rfl, ⟨F3, h3⟩, t3⟩
     go_simp
     refine hK _ _ ?_
     clear hK KK
     refine Reg.take_at (i := 18) (d := 10) (v := ?_) rfl rfl (by kernel_rfl) (by kernel_rfl) (by kernel_rfl) (fun _ _ _ h => h) (Or.inl ⟨by rfl, ?_⟩) ?_
     rotate_left 1
     ·intro w; go_simp <;> with_reducible rfl
     simp only [Act.put, List.setIfInBounds_toArray, List.set_cons_zero, List.set_cons_succ]
     refine wpAny_done (by kernel_rfl) ?_ _
     have H3 := Lib.hid ((h3.less HXY.out).up (show m + 1000 ≤ m + 700000 by omega))
     have T3 := Lib.hid (T2.out.step ((Tu.out.step t3).mono fun i _ hi hx => hi (HXY.out i hx)))
     clear h3 t3 hcl g2
     go_wp2_with fail
     go_ret2
     exact ⟨rfl, ⟨V, ⟨_, _, _, _, _, _, _, _, H3.out⟩, HFI.out.2.2.2⟩, T3.out⟩
    refine AllReady.cons rfl (fun KK hK => ?_) ?_
    ·go_simp
     refine hK _ _ ?_
     clear hK KK
     refine wpAny_ready (rs := [4, 16]) (by decide +kernel) (by simp) ?_
     refine AllReady.cons rfl (fun KK hK => ?_) ?_
     ·go_simp
      refine hK _ _ ?_
      clear hK KK
      refine wpAny_ready (rs := [16]) (by decide +kernel) (by simp) ?_
      refine AllReady.cons rfl (fun KK hK => ?_) AllReady.nil
      go_simp
      (with_reducible refine (HIS.out).mono ?_)
      rintro e u9 ⟨rfl, rfl⟩
      go_simp
      refine hK _ _ ?_
      clear hK KK
      refine wpAny_ready (rs := [17]) (by decide +kernel) (by simp) ?_
      refine AllReady.cons rfl (fun KK hK => ?_) AllReady.nil
      go_simp
      (with_reducible refine (HWR.out).mono ?_)
      rintro e u1 ⟨rfl, ⟨F3, h3⟩, t3⟩
      go_simp
      refine hK _ _ ?_
      clear hK KK
      refine Reg.take_at (i := 18) (d := 10) (v := ?_) rfl rfl (by kernel_rfl) (by kernel_rfl) (by kernel_rfl) (fun _ _ _ h => h) (Or.inl ⟨by rfl, ?_⟩) ?_
      rotate_left 1
      ·intro w; go_simp <;> with_reducible rfl
      simp only [Act.put, List.setIfInBounds_toArray, List.set_cons_zero, List.set_cons_succ]
      refine wpAny_done (by kernel_rfl) ?_ _
      have H3 := Lib.hid ((h3.less HXY.out).up (show m + 1000 ≤ m + 700000 by omega))
      have T3 := Lib.hid (T2.out.step ((Tu.out.step t3).mono fun i _ hi hx => hi (HXY.out i hx)))
      clear h3 t3 hcl g2
      go_wp2_with fail
      go_ret2
      exact ⟨rfl, ⟨V, ⟨_, _, _, _, _, _, _, _, H3.out⟩, HFI.out.2.2.2⟩, T3.out⟩
     refine AllReady.cons rfl (fun KK hK => ?_) AllReady.nil
     go_simp
     (with_reducible refine (HIS.out).mono ?_)
     rintro e u9 ⟨rfl, rfl⟩
     go_simp
     refine hK _ _ ?_
     clear hK KK
     refine wpAny_ready (rs := [4]) (by decide +kernel) (by simp) ?_
     refine AllReady.cons rfl (fun KK hK => ?_) AllReady.nil
     go_simp
     refine hK _ _ ?_
     clear hK KK
     refine wpAny_ready (rs := [17]) (by decide +kernel) (by simp) ?_
     refine AllReady.cons rfl (fun KK hK => ?_) AllReady.nil
     go_simp
     (with_reducible refine (HWR.out).mono ?_)
     rintro e u1 ⟨rfl, ⟨F3, h3⟩, t3⟩
     go_simp
     refine hK _ _ ?_
     clear hK KK
     refine Reg.take_at (i := 18) (d := 10) (v := ?_) rfl rfl (by kernel_rfl) (by kernel_rfl) (by kernel_rfl) (fun _ _ _ h => h) (Or.inl ⟨by rfl, ?_⟩) ?_
     rotate_left 1
     ·intro w; go_simp <;> with_reducible rfl
     simp only [Act.put, List.setIfInBounds_toArray, List.set_cons_zero, List.set_cons_succ]
     refine wpAny_done (by kernel_rfl) ?_ _
     have H3 := Lib.hid ((h3.less HXY.out).up (show m + 1000 ≤ m + 700000 by omega))
     have T3 := Lib.hid (T2.out.step ((Tu.out.step t3).mono fun i _ hi hx => hi (HXY.out i hx)))
     clear h3 t3 hcl g2
     go_wp2_with fail
     go_ret2
     exact ⟨rfl, ⟨V, ⟨_, _, _, _, _, _, _, _, H3.out⟩, HFI.out.2.2.2⟩, T3.out⟩
    refine AllReady.cons rfl (fun KK hK => ?_) AllReady.nil
    go_simp
    (with_reducible refine (HIS.out).mono ?_)
    rintro e u9 ⟨rfl, rfl⟩
    go_simp
    refine hK _ _ ?_
    clear hK KK
    refine wpAny_ready (rs := [4, 9]) (by decide +kernel) (by simp) ?_
    refine AllReady.cons rfl (fun KK hK => ?_) ?_
    ·go_simp
     refine hK _ _ ?_
     clear hK KK
     refine wpAny_ready (rs := [9]) (by decide +kernel) (by simp) ?_
     refine AllReady.cons rfl (fun KK hK => ?_) AllReady.nil
     go_simp
     refine hK _ _ ?_
     clear hK KK
     refine wpAny_ready (rs := [17]) (by decide +kernel) (by simp) ?_
     refine AllReady.cons rfl (fun KK hK => ?_) AllReady.nil
     go_simp
     (with_reducible refine (HWR.out).mono ?_)
     rintro e u1 ⟨rfl, ⟨F3, h3⟩, t3⟩
     go_simp
     refine hK _ _ ?_
     clear hK KK
     refine Reg.take_at (i := 18) (d := 10) (v := ?_) rfl rfl (by kernel_rfl) (by kernel_rfl) (by kernel_rfl) (fun _ _ _ h => h) (Or.inl ⟨by rfl, ?_⟩) ?_
     rotate_left 1
     ·intro w; go_simp <;> with_reducible rfl
     simp only [Act.put, List.setIfInBounds_toArray, List.set_cons_zero, List.set_cons_succ]
     refine wpAny_done (by kernel_rfl) ?_ _
     have H3 := Lib.hid ((h3.less HXY.out).up (show m + 1000 ≤ m + 700000 by omega))
     have T3 := Lib.hid (T2.out.step ((Tu.out.step t3).mono fun i _ hi hx => hi (HXY.out i hx)))
     clear h3 t3 hcl g2
     go_wp2_with fail
     go_ret2
     exact ⟨rfl, ⟨V, ⟨_, _, _, _, _, _, _, _, H3.out⟩, HFI.out.2.2.2⟩, T3.out⟩
    refine AllReady.cons rfl (fun KK hK => ?_) AllReady.nil
    go_simp
    refine hK _ _ ?_
    clear hK KK
    refine wpAny_ready (rs := [4]) (by decide +kernel) (by simp) ?_
    refine AllReady.cons rfl (fun KK hK => ?_) AllReady.nil
    go_simp
    refine hK _ _ ?_
    clear hK KK
    refine wpAny_ready (rs := [17]) (by decide +kernel) (by simp) ?_
    refine AllReady.cons rfl (fun KK hK => ?_) AllReady.nil
    go_simp
    (with_reducible refine (HWR.out).mono ?_)
    rintro e u1 ⟨rfl, ⟨F3, h3⟩, t3⟩
    go_simp
    refine hK _ _ ?_
    clear hK KK
    refine Reg.take_at (i := 18) (d := 10) (v := ?_) rfl rfl (by kernel_rfl) (by kernel_rfl) (by kernel_rfl) (fun _ _ _ h => h) (Or.inl ⟨by rfl, ?_⟩) ?_
    rotate_left 1
    ·intro w; go_simp <;> with_reducible rfl
    simp only [Act.put, List.setIfInBounds_toArray, List.set_cons_zero, List.set_cons_succ]
    refine wpAny_done (by kernel_rfl) ?_ _
    have H3 := Lib.hid ((h3.less HXY.out).up (show m + 1000 ≤ m + 700000 by omega))
    have T3 := Lib.hid (T2.out.step ((Tu.out.step t3).mono fun i _ hi hx => hi (HXY.out i hx)))
    clear h3 t3 hcl g2
    go_wp2_with fail
    go_ret2
    exact ⟨rfl, ⟨V, ⟨_, _, _, _, _, _, _, _, H3.out⟩, HFI.out.2.2.2⟩, T3.out⟩
end
end Go.Proofs.YtpidnkfcccboaaaGreat.PagerCode
