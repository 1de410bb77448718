/- The contract of the pager's tellFree, where there is room. -/
import Derived.Test.YtpidnkfcccboaaaGreatKPagerTellFree
namespace Go.Proofs.YtpidnkfcccboaaaGreat.PagerCode
open Go.RowKit Base PagePlain PageSmall FreePlain FreeMem FreePages FreeOf SuperPlain SuperRefCheck PagerPlain PagerTold PagerNum PagerSpec PagerTellP SumOf DiskPlain DiskMem DiskSmall PagerMem PagerDisk Go.Maps

section
variable {W w w' : World} {p d g mp : Nat} {S : DS} {P P' : PS} {X Y G : Blks} {m m' : Int} {nn : Nat} {FD : Blks} {A B C : Option Addr} {a b c : Nat}
set_option maxRecDepth 100000 in
set_option maxHeartbeats 25600000 in
theorem tellFree_good (h : Cr W p d g mp S P X m nn FD A B C a b c) (ha : Agree S P) (hf : Fine P m) {R : PS} {ds : List Int} (ht : takes (P.freed.fl.length + 1) P.freed [] = (R, ds, true)) :
  Calls Tryz.prog 52 #[.pointer (some ⟨p, 0, none⟩)] W fun e w' => ∃ K ck S' Y, e = .returned (.tuple #[.slice K ds.length ck, .int .i64 0]) ∧ Cw w' p d g mp S' { P with fl := R.fl, pg := R.pg } Y (m + 700000) ∧ (∀ i, X i → Y i) ∧ RowP w' (fun i => Y i ∧ ¬ X i) K (intsV ds) ∧ ds.length ≤ ck ∧ Agree S' { P with fl := R.fl, pg := R.pg, len := R.len, rd := rdw (P.x.ep + 1) ds R.fl P.rd ds.length } ∧ Turn (Not X) W w' := by
 have hi := hf.inv
 have i1 := hi.len
 have i2 := hi.most
 have i3 := hf.few
 have i4 := hi.xg
 have i5 := hi.xp
 have i6 := hi.ep
 have i7 := hf.ep
 have i8 := hf.m1
 have i9 := few_free hi
 have hif := hi.freed
 have j1 := few_free hif
 have j2 : (P.freed.fl.length : Int) ≤ 300 := by have : P.freed.pg = P.pg := rfl; omega
 have hchl : P.ch.length ≤ 300 := by
  have h1 := hi.cn.length_le_of_subset (l₂ := FreeCov.rng (P.pg - 2).toNat) fun c hc => by
   have := hi.tc c hc
   exact FreeCov.mem_rng.2 ⟨by omega, by omega⟩
  rw [FreeCov.len_rng] at h1
  omega
 have hm := takes_many _ hif ht
 have hkp : P.pg ≤ R.pg := hm.kept.pg
 obtain ⟨htT, htF⟩ := takes_V (P.freed.fl.length + 1) P.freed P.freed [] rfl rfl rfl (show P.pg ≤ P.most by omega)
 obtain ⟨V, dv, hV⟩ : ∃ V dv, takesV (P.freed.fl.length + 1) P.freed [] = (V, dv) := ⟨_, _, rfl⟩
 have hVk := takesV_kept (P.freed.fl.length + 1) P.freed []
 rw [hV] at hVk
 have hVs := takesV_sub (P.freed.fl.length + 1) P.freed []
 rw [hV] at hVs
 have hgd := gd_freed hif (show P.x.ep ≤ 4000000000 by omega) hVs
 have hVin := takesV_in (P.freed.fl.length + 1) P.freed [] (by simp) (fun q hq => by have := hif.fr q hq; have e : P.freed.pg = P.pg := rfl; omega) (show 0 ≤ P.pg by omega) (show P.pg + ((P.freed.fl.length + 1 : Nat) : Int) ≤ 100000 by push_cast; omega)
 rw [hV] at hVin
 simp only at hVk hVs hgd hVin
 have hVl : V.fl.length ≤ 300 := by have := hVs.length_le; omega
 have hT := htT R ds ht
 rw [hV] at hT
 obtain ⟨rfl, hT1, hT2, hT3⟩ := hT
 have hVe : V = { P with fl := R.fl, pg := R.pg } := by rw [hVk, hT1, hT2]; rfl
 have hrl := takes_len _ (show P.freed.pg ≤ P.freed.len by show P.pg ≤ P.len; omega) ht
 have hdn := hm.inv.nd
 obtain ⟨eo, ho1, ho2⟩ := hm.out
 simp only [List.nil_append] at ho1
 subst ho1
 have hdr : ∀ n ∈ dv, 0 ≤ n ∧ n < R.pg := fun n hn => by have := hm.inv.nr n (by rw [ho2]; exact List.mem_append.2 (Or.inr hn)); omega
 have hdl : dv.length ≤ 300 := by
  have hnd : dv.Nodup := by rw [ho2] at hdn; exact (List.nodup_append.1 hdn).2.1
  have h1 := hnd.length_le_of_subset (l₂ := FreeCov.rng (R.pg - 2).toNat) fun n hn => by
   have := hm.inv.nr n (by rw [ho2]; exact List.mem_append.2 (Or.inr hn))
   exact FreeCov.mem_rng.2 ⟨by omega, by omega⟩
  rw [FreeCov.len_rng] at h1
  have e : P.freed.most = P.most := rfl
  omega
 have herr : ∀ i, err (chainPg (P.x.ep + 1) dv R.fl i) = 0 := fun i => chain_err (by omega) (by omega) hVin
 have hnil : dv = [] → R.pg = P.pg ∧ R.len = P.len := fun e => by
  subst e
  have e2 := takes_nil hif ht rfl
  rw [e2]
  exact ⟨rfl, rfl⟩
 subst hVe
 have HFI := Lib.hid (And.intro hkp (And.intro (show R.pg ≤ P.most from hT3) (And.intro hrl (And.intro hdr (And.intro herr hnil)))))
 have HVL := Lib.hid hVl
 have c3 := (pgc h.st).2.1.1
 have c8 := (pgc h.st).2.2.2.1
 have hep : (P.x.ep == 4294967295) = false := by simp; omega
 have HB := Lib.hid h.rb
 have HH := Lib.hid h
 have HI := Lib.hid hi
 have HA := Lib.hid ha
 have HGD := Lib.hid hgd
 have HV := Lib.hid hV
 have HR := Lib.hid (fun k => (freed_rise (P.x.ep + 1) (P.ch.take k) P.fl hi.rise : Rise (frd P k)))
 have HL := Lib.hid (fun k => show (frd P k).length ≤ 1000 from by have := freed_len (P.x.ep + 1) (P.ch.take k) P.fl; unfold frd; rw [List.length_take] at this; omega)
 have HTC := Lib.hid (fun (k : Nat) (hk : k < P.ch.length) => show In P.ch[k] from by have := hi.tc _ (List.getElem_mem hk); unfold In; omega)
 have HP := Lib.hid (And.intro i6 (And.intro i7 (And.intro i8 (And.intro j2 (show 0 ≤ P.freed.pg ∧ P.freed.pg ≤ 5000 from ⟨by show 0 ≤ P.pg; omega, by show P.pg ≤ 5000; omega⟩)))))
 have hm0 := hf.m0
 clear h ha hi hif ht hm hkp htT htF hV hVk hVs hgd hVin i1 i2 i3 i4 i5 i9 j1 j2 hVl hT1 hT2 hT3 hrl hdn ho2 hdr herr hnil
 go_enter Tryz.func52, Tryz.ntmps52
 go_wp2_with fail
 clear c3 c8 hep
 go_loopw [22] (fun i wr => ∃ (k : Nat) (C' : Option Addr) (c' : Nat), k ≤ P.ch.length ∧ i = .int .i64 k ∧ Hid (Cr wr p d g mp S { P with fl := frd P k } X m nn FD A B C' a b c') ∧ Hid (Turn (Not X) W wr)) (fun i _ => P.ch.length - (intOf i).toNat)
 case atStart => exact ⟨0, C, c, by omega, rfl, HH.out, Turn.refl _ _⟩
 case round =>
  obtain ⟨k, C', c', hk, rfl, HC, HT⟩ := hrel
  by_cases hlt : k < P.ch.length
  ·obtain ⟨ad, hB, _, _, hcl⟩ := HC.out.rb k (.int .i64 P.ch[k]) (by simp [intsV, hlt])
   subst hB
   have hcall := letGo_any HC.out (HR.out k) (HL.out k) (by have := HP.out.1; show 0 ≤ P.x.ep; omega) (by have := HP.out.2.1; show P.x.ep ≤ _; omega) P.ch[k] (HTC.out k hlt)
   rw [go_frd HI.out hlt] at hcall
   have HT1 := HT
   generalize P.ch[k] = no at *
   clear HT
   go_wp2_with fail
   (with_reducible refine hcall.mono ?_)
   clear hcall hcl
   rintro e w1 ⟨rfl, ⟨C2, c2, h2⟩, t2⟩
   have H2 := Lib.hid h2
   have T2 := Lib.hid (HT1.out.step t2)
   clear h2 t2
   go_wp2_with fail
   go_roundw
   case rel => exact ⟨k + 1, C2, c2, by omega, by go_num, H2.out, T2.out⟩
   case measure => simp [intOf]; omega
  ·obtain rfl : k = P.ch.length := by omega
   have hCr : Cr wr p d g mp S P.freed X m nn FD A B C' a b c' := by rw [← frd_all]; exact HC.out
   have hcall := takeChain_any hCr (by have := HP.out.2.2.2.1; omega) HP.out.2.2.2.2.1 HP.out.2.2.2.2.2
   rw [HV.out] at hcall
   simp only at hcall
   have HT1 := HT
   have HCX := Lib.hid hCr.xl
   clear HC HT hk hlt hCr HR HL HTC HI HB HH
   go_wp2_with fail
   (with_reducible refine hcall.mono ?_)
   clear hcall
   rintro e w1 ⟨K, ck, C1, c1, rfl, h1, t1, r1, hck⟩
   have T1 := Lib.hid (HT1.out.step t1)
   have HSZ := Lib.hid t1.size
   have HWZ := Lib.hid HT1.out.size
   have d9 := (pgc h1.st).2.2.2.2.1
   have hcall := PagerCells.cellsT_any w1 C1 R.fl.length c1 R.fl rfl h1.lc h1.rc.row (by have := HVL.out; omega)
   clear t1 HT1
   go_wp2_with fail
   (with_reducible refine hcall.mono ?_)
   clear hcall d9
   rintro e w2 ⟨b2, hres⟩
   rcases hres with ⟨_, KC, mc, cc, cs, rfl, hmc, hot, hpg⟩ | ⟨hno, _⟩
   rotate_left
   ·exact absurd HGD.out hno
   obtain ⟨ps, rfl, hop, hrp⟩ := hot
   have h2 := h1.more b2
   have rK : RowP w2 (fun i => Plus (With X K) w1 w2 i ∧ ¬ X i) K (intsV dv) := fun k v hv => by
    obtain ⟨ad, e1, e2, e3, e4⟩ := (r1.below b2) k v hv
    exact ⟨ad, e1, ⟨Or.inl (Or.inr (by rw [e1]; rfl)), fun z => by have := HCX.out _ z; omega⟩, e3, e4⟩
   have rO : RowP w2 (Plus (With X K) w1 w2) KC (ps.map psv) := fun k v hv => by
    obtain ⟨ad, e1, e2, e3, e4⟩ := own_rowP_ hop k v hv
    exact ⟨ad, e1, Or.inr ⟨e2, e3⟩, e3, e4⟩
   have rI : ∀ q ∈ ps, RowP w2 (Plus (With X K) w1 w2) q.1 (strs q.2.2) := fun q hq k v hv => by
    obtain ⟨ad, e1, e2, e3, e4⟩ := rowT_rowP (hrp q hq) k v hv
    exact ⟨ad, e1, Or.inr ⟨e2, e3⟩, e3, e4⟩
   have HXY := Lib.hid (show ∀ i, X i → Plus (With X K) w1 w2 i from fun i hi => Or.inl (Or.inl hi))
   have T2 := Lib.hid (T1.out.step (Turn.ofBelow b2))
   have hpl : mc = (ps.map psv).length := by rw [hmc]; simp [cellsP]
   have HMC := Lib.hid hpl
   have HMC := Lib.hid hpl
   have HML := Lib.hid (show (ps.map psv).length ≤ 100000 from by
    have h3 := cells_few hpg
    rw [List.length_map]
    simp only [cellsP, List.length_map] at h3
    have := HVL.out
    skip
    omega)
   have HPG := Lib.hid hpg
   have HRK := Lib.hid rK
   have HRO := Lib.hid rO
   have HRI := Lib.hid rI
   have H2 := Lib.hid h2
   have HCK := Lib.hid hck
   clear h1 h2 b2 r1 rK rO rI hop hrp hmc hpl hpg hck HSZ HWZ T1
   generalize Plus (With X K) w1 w2 = Y at *
   go_wp2_with fail
   go_loopw [45] (fun i wr => ∃ (k : Nat) (Sk : DS) (F2 : Blks), k ≤ dv.length ∧ i = .int .i64 k ∧ Hid (Cr wr p d g mp Sk { P with fl := R.fl, pg := R.pg } Y (m + 2000 * (k : Int)) nn F2 A B C1 a b c1) ∧ Hid (Turn (Not Y) w2 wr) ∧ Hid (Dsk P R dv S k Sk)) (fun i _ => dv.length - (intOf i).toNat)
   case atStart => exact ⟨0, S, FD, by omega, rfl, H2.out.up (by simp), Turn.refl _ _, Or.inl ⟨rfl, rfl⟩⟩
   case round =>
    obtain ⟨k, Sk, F2, hk, rfl, HCk, HTk, HDk⟩ := hrel
    by_cases hlt : k < dv.length
    ·have hdl1 := hdl
     go_upto_region 15 with fail
     refine wp_region_any (by kernel_rfl) ?_
     change wpAny _ _ _ _ _ _ _ (World.drew _)
     generalize hu0 : World.drew wr = u0
     have hCu : Cr u0 p d g mp Sk { P with fl := R.fl, pg := R.pg } Y (m + 2000 * (k : Int)) nn F2 A B C1 a b c1 := by rw [← hu0]; exact HCk.out.below (Below.refl _ _).drew
     have Tu := Lib.hid (show Turn (Not Y) w2 u0 by rw [← hu0]; exact HTk.out.step (Turn.ofBelow (Below.refl _ _).drew))
     have rKu := HRK.out.turn Tu.out fun _ q z => z q.1
     have rOu := HRO.out.turn Tu.out fun _ q z => z q
     have rIu := fun q hq => (HRI.out q hq).turn Tu.out fun _ q z => z q
     obtain ⟨ad, hB, _, _, hcl⟩ := rKu k (.int .i64 (dv.getD k 0)) (by rw [getD_of hlt]; simp [intsV, hlt])
     subst hB
     have g2 := (pgc hCu.st).1.2.2
     have hwrap : IntKind.i64.wrap ((k : Int) + 1) = (k : Int) + 1 := IntWalk.i64_in _ (by omega)
     obtain ⟨KK, cK, hval, hrw⟩ := item_shape HPG.out rIu k
     have HIT := Lib.hid (itemI_any u0 (some ad) dv.length ck dv (k + 1) ((k : Int) + 1) (by push_cast; rfl) rfl rKu.row (by omega))
     have hits := itemS_any u0 KC mc cc (ps.map psv) k (k : Int) (by push_cast; rfl) HMC.out rOu.row HML.out
     rw [hval] at hits
     have HIS := Lib.hid hits
     have hst := dsk_step HDk.out HA.out hCu.dk.ok HFI.out.1 HFI.out.2.1 HFI.out.2.2.1 HFI.out.2.2.2.1 hlt (HFI.out.2.2.2.2.1 k)
     have hmk : m + 2000 * (k : Int) ≤ 800000000 := by have := HP.out.2.2.1; omega
     have hwr := write_good hCu (by have := HP.out.1; show 0 ≤ P.x.ep; omega) (by have := HP.out.2.1; show P.x.ep ≤ _; omega) hmk (dv.getD k 0) R.pg 3 (dv.getD (k + 1) 0) KK cK (cellsAt R.fl k) ⟨by have := cellsAt_len R.fl k; omega, fun q hq => by have := cellsAt_size q hq; omega⟩ hrw (HFI.out.2.2.2.2.1 k) ⟨hst.2.1, hst.2.2.1, hst.2.2.2.1, page_256 (HFI.out.2.2.2.2.1 k), hst.2.2.2.2⟩
     have HWR := Lib.hid hwr
     have HST := Lib.hid (show Agree ((Sk.grow R.pg).write (dv.getD k 0) (page (({ P with fl := R.fl, pg := R.pg } : PS).of 3 (dv.getD (k + 1) 0) (cellsAt R.fl k) (dv.getD k 0)))) { P with fl := R.fl, pg := R.pg, len := R.len, rd := rdw (P.x.ep + 1) dv R.fl P.rd (k + 1) } from hst.1)
     have HKD := Lib.hid hmk
     clear hCu rKu rOu rIu hits hval hst hwr hmk hu0 hrw HCk HTk HDk
     generalize dv.getD k 0 = z1 at *
     generalize dv.getD (k + 1) 0 = z2 at *
     refine Reg.take_at (i := 0) (d := 48) (v := ?_) rfl rfl (by kernel_rfl) (by kernel_rfl) (by kernel_rfl) (fun _ _ _ h => h) (Or.inl ⟨by rfl, ?_⟩) ?_
     rotate_left 1
     ·intro w; go_simp <;> with_reducible rfl
     simp only [Act.put, List.setIfInBounds_toArray, List.set_cons_zero, List.set_cons_succ]
     refine Reg.take_at (i := 1) (d := 49) (v := ?_) rfl rfl (by kernel_rfl) (by kernel_rfl) (by kernel_rfl) (fun _ _ _ h => h) (Or.inl ⟨by rfl, ?_⟩) ?_
     rotate_left 1
     ·intro w; go_simp <;> with_reducible rfl
     simp only [Act.put, List.setIfInBounds_toArray, List.set_cons_zero, List.set_cons_succ]
     refine Reg.take_at (i := 2) (d := 50) (v := ?_) rfl rfl (by kernel_rfl) (by kernel_rfl) (by kernel_rfl) (fun _ _ _ h => h) (Or.inl ⟨by rfl, ?_⟩) ?_
     rotate_left 1
     ·intro w; go_simp <;> with_reducible rfl
     simp only [Act.put, List.setIfInBounds_toArray, List.set_cons_zero, List.set_cons_succ]
     refine Reg.take_at (i := 3) (d := 51) (v := ?_) rfl rfl (by kernel_rfl) (by kernel_rfl) (by kernel_rfl) (fun _ _ _ h => h) (Or.inl ⟨by rfl, ?_⟩) ?_
     rotate_left 1
     ·intro w; go_simp <;> with_reducible rfl
     simp only [Act.put, List.setIfInBounds_toArray, List.set_cons_zero, List.set_cons_succ]
     refine Reg.take_at (i := 5) (d := 53) (v := ?_) rfl rfl (by kernel_rfl) (by kernel_rfl) (by kernel_rfl) (fun _ _ _ h => h) (Or.inl ⟨by rfl, ?_⟩) ?_
     rotate_left 1
     ·intro w; go_simp <;> with_reducible rfl
     simp only [Act.put, List.setIfInBounds_toArray, List.set_cons_zero, List.set_cons_succ]
     refine Reg.take_at (i := 6) (d := 54) (v := ?_) rfl rfl (by kernel_rfl) (by kernel_rfl) (by kernel_rfl) (fun _ _ _ h => h) (Or.inl ⟨by rfl, ?_⟩) ?_
     rotate_left 1
     ·intro w; go_simp <;> with_reducible rfl
     simp only [Act.put, List.setIfInBounds_toArray, List.set_cons_zero, List.set_cons_succ]
     refine Reg.take_at (i := 7) (d := 55) (v := ?_) rfl rfl (by kernel_rfl) (by kernel_rfl) (by kernel_rfl) (fun _ _ _ h => h) (Or.inl ⟨by rfl, ?_⟩) ?_
     rotate_left 1
     ·intro w; go_simp <;> with_reducible rfl
     simp only [Act.put, List.setIfInBounds_toArray, List.set_cons_zero, List.set_cons_succ]
     refine Reg.take_at (i := 8) (d := 56) (v := ?_) rfl rfl (by kernel_rfl) (by kernel_rfl) (by kernel_rfl) (fun _ _ _ h => h) (Or.inl ⟨by rfl, ?_⟩) ?_
     rotate_left 1
     ·intro w; go_simp <;> with_reducible rfl
     simp only [Act.put, List.setIfInBounds_toArray, List.set_cons_zero, List.set_cons_succ]
     refine Reg.take_at (i := 10) (d := 58) (v := ?_) rfl rfl (by kernel_rfl) (by kernel_rfl) (by kernel_rfl) (fun _ _ _ h => h) (Or.inl ⟨by rfl, ?_⟩) ?_
     rotate_left 1
     ·intro w; go_simp <;> with_reducible rfl
     simp only [Act.put, List.setIfInBounds_toArray, List.set_cons_zero, List.set_cons_succ]
     refine Reg.take_at (i := 11) (d := 59) (v := ?_) rfl rfl (by kernel_rfl) (by kernel_rfl) (by kernel_rfl) (fun _ _ _ h => h) (Or.inl ⟨by rfl, ?_⟩) ?_
     rotate_left 1
     ·intro w; go_simp <;> with_reducible rfl
     simp only [Act.put, List.setIfInBounds_toArray, List.set_cons_zero, List.set_cons_succ]
     refine Reg.take_at (i := 12) (d := 60) (v := ?_) rfl rfl (by kernel_rfl) (by kernel_rfl) (by kernel_rfl) (fun _ _ _ h => h) (Or.inl ⟨by rfl, ?_⟩) ?_
     rotate_left 1
     ·intro w; go_simp <;> with_reducible rfl
     simp only [Act.put, List.setIfInBounds_toArray, List.set_cons_zero, List.set_cons_succ]
     refine Reg.take_at (i := 14) (d := 62) (v := ?_) rfl rfl (by kernel_rfl) (by kernel_rfl) (by kernel_rfl) (fun _ _ _ h => h) (Or.inl ⟨by rfl, ?_⟩) ?_
     rotate_left 1
     ·intro w; go_simp <;> with_reducible rfl
     simp only [Act.put, List.setIfInBounds_toArray, List.set_cons_zero, List.set_cons_succ]
     refine Reg.take_at (i := 15) (d := 63) (v := ?_) rfl rfl (by kernel_rfl) (by kernel_rfl) (by kernel_rfl) (fun _ _ _ h => h) (Or.inl ⟨by rfl, ?_⟩) ?_
     rotate_left 1
     ·intro w; go_simp <;> with_reducible rfl
     simp only [Act.put, List.setIfInBounds_toArray, List.set_cons_zero, List.set_cons_succ]
     refine wpAny_ready (rs := [4, 9, 13]) (by decide +kernel) (by simp) ?_
     refine AllReady.cons rfl (fun KK hK => ?_) ?_
     ·go_simp
      refine hK _ _ ?_
      clear hK KK
      refine wpAny_ready (rs := [9, 13]) (by decide +kernel) (by simp) ?_
      refine AllReady.cons rfl (fun KK hK => ?_) ?_
      ·go_simp
       refine hK _ _ ?_
       clear hK KK
       refine wpAny_ready (rs := [13]) (by decide +kernel) (by simp) ?_
       refine AllReady.cons rfl (fun KK hK => ?_) AllReady.nil
       go_simp
       (with_reducible refine (HIT.out).mono ?_)
       rintro e u9 ⟨rfl, rfl⟩
       go_simp
       refine hK _ _ ?_
       clear hK KK
       refine wpAny_ready (rs := [16]) (by decide +kernel) (by simp) ?_
       refine AllReady.cons rfl (fun KK hK => ?_) AllReady.nil
       go_simp
       (with_reducible refine (HIS.out).mono ?_)
       rintro e u9 ⟨rfl, rfl⟩
       go_simp
       refine hK _ _ ?_
       clear hK KK
       refine wpAny_ready (rs := [17]) (by decide +kernel) (by simp) ?_
       refine AllReady.cons rfl (fun KK hK => ?_) AllReady.nil
       go_simp
       (with_reducible refine (HWR.out).mono ?_)
       rintro e u1 ⟨rfl, ⟨F3, h3⟩, t3⟩
       go_simp
       refine hK _ _ ?_
       clear hK KK
       refine Reg.take_at (i := 18) (d := 10) (v := ?_) rfl rfl (by kernel_rfl) (by kernel_rfl) (by kernel_rfl) (fun _ _ _ h => h) (Or.inl ⟨by rfl, ?_⟩) ?_
       rotate_left 1
       ·intro w; go_simp <;> with_reducible rfl
       simp only [Act.put, List.setIfInBounds_toArray, List.set_cons_zero, List.set_cons_succ]
       refine wpAny_done (by kernel_rfl) ?_ _
       have H3 := Lib.hid (h3.up (show m + 2000 * (k : Int) + 2000 ≤ m + 2000 * ((k + 1 : Nat) : Int) by push_cast; omega))
       have T3 := Lib.hid (Tu.out.step t3)
       clear h3 t3 hcl g2
       go_wp2_with fail
       go_roundw
       case rel => exact ⟨k + 1, _, F3, by omega, by go_num, H3.out, T3.out, Or.inr ⟨by omega, HST.out⟩⟩
       case measure => simp [intOf]; omega
      refine AllReady.cons rfl (fun KK hK => ?_) AllReady.nil
      go_simp
      (with_reducible refine (HIT.out).mono ?_)
      rintro e u9 ⟨rfl, rfl⟩
      go_simp
      refine hK _ _ ?_
      clear hK KK
      refine wpAny_ready (rs := [9, 16]) (by decide +kernel) (by simp) ?_
      refine AllReady.cons rfl (fun KK hK => ?_) ?_
      ·go_simp
       refine hK _ _ ?_
       clear hK KK
       refine wpAny_ready (rs := [16]) (by decide +kernel) (by simp) ?_
       refine AllReady.cons rfl (fun KK hK => ?_) AllReady.nil
       go_simp
       (with_reducible refine (HIS.out).mono ?_)
       rintro e u9 ⟨rfl, rfl⟩
       go_simp
       refine hK _ _ ?_
       clear hK KK
       refine wpAny_ready (rs := [17]) (by decide +kernel) (by simp) ?_
       refine AllReady.cons rfl (fun KK hK => ?_) AllReady.nil
       go_simp
       (with_reducible refine (HWR.out).mono ?_)
       rintro e u1 ⟨rfl, ⟨F3, h3⟩, t3⟩
       go_simp
       refine hK _ _ ?_
       clear hK KK
       refine Reg.take_at (i := 18) (d := 10) (v := ?_) rfl rfl (by kernel_rfl) (by kernel_rfl) (by kernel_rfl) (fun _ _ _ h => h) (Or.inl ⟨by rfl, ?_⟩) ?_
       rotate_left 1
       ·intro w; go_simp <;> with_reducible rfl
       simp only [Act.put, List.setIfInBounds_toArray, List.set_cons_zero, List.set_cons_succ]
       refine wpAny_done (by kernel_rfl) ?_ _
       have H3 := Lib.hid (h3.up (show m + 2000 * (k : Int) + 2000 ≤ m + 2000 * ((k + 1 : Nat) : Int) by push_cast; omega))
       have T3 := Lib.hid (Tu.out.step t3)
       clear h3 t3 hcl g2
       go_wp2_with fail
       go_roundw
       case rel => exact ⟨k + 1, _, F3, by omega, by go_num, H3.out, T3.out, Or.inr ⟨by omega, HST.out⟩⟩
       case measure => simp [intOf]; omega
      refine AllReady.cons rfl (fun KK hK => ?_) AllReady.nil
      go_simp
      (with_reducible refine (HIS.out).mono ?_)
      rintro e u9 ⟨rfl, rfl⟩
      go_simp
      refine hK _ _ ?_
      clear hK KK
      refine wpAny_ready (rs := [9]) (by decide +kernel) (by simp) ?_
      refine AllReady.cons rfl (fun KK hK => ?_) AllReady.nil
      go_simp
      refine hK _ _ ?_
      clear hK KK
      refine wpAny_ready (rs := [17]) (by decide +kernel) (by simp) ?_
      refine AllReady.cons rfl (fun KK hK => ?_) AllReady.nil
      go_simp
      (with_reducible refine (HWR.out).mono ?_)
      rintro e u1 ⟨rfl, ⟨F3, h3⟩, t3⟩
      go_simp
      refine hK _ _ ?_
      clear hK KK
      refine Reg.take_at (i := 18) (d := 10) (v := ?_) rfl rfl (by kernel_rfl) (by kernel_rfl) (by kernel_rfl) (fun _ _ _ h => h) (Or.inl ⟨by rfl, ?_⟩) ?_
      rotate_left 1
      ·intro w; go_simp <;> with_reducible rfl
      simp only [Act.put, List.setIfInBounds_toArray, List.set_cons_zero, List.set_cons_succ]
      refine wpAny_done (by kernel_rfl) ?_ _
      have H3 := Lib.hid (h3.up (show m + 2000 * (k : Int) + 2000 ≤ m + 2000 * ((k + 1 : Nat) : Int) by push_cast; omega))
      have T3 := Lib.hid (Tu.out.step t3)
      clear h3 t3 hcl g2
      go_wp2_with fail
      go_roundw
      case rel => exact ⟨k + 1, _, F3, by omega, by go_num, H3.out, T3.out, Or.inr ⟨by omega, HST.out⟩⟩
      case measure => simp [intOf]; omega
     refine AllReady.cons rfl (fun KK hK => ?_) ?_
     ·go_simp
      refine hK _ _ ?_
      clear hK KK
      refine wpAny_ready (rs := [4, 13]) (by decide +kernel) (by simp) ?_
      refine AllReady.cons rfl (fun KK hK => ?_) ?_
      ·go_simp
       refine hK _ _ ?_
       clear hK KK
       refine wpAny_ready (rs := [13]) (by decide +kernel) (by simp) ?_
       refine AllReady.cons rfl (fun KK hK => ?_) AllReady.nil
       go_simp
       (with_reducible refine (HIT.out).mono ?_)
       rintro e u9 ⟨rfl, rfl⟩
       go_simp
       refine hK _ _ ?_
       clear hK KK
       refine wpAny_ready (rs := [16]) (by decide +kernel) (by simp) ?_
       refine AllReady.cons rfl (fun KK hK => ?_) AllReady.nil
       go_simp
       (with_reducible refine (HIS.out).mono ?_)
       rintro e u9 ⟨rfl, rfl⟩
       go_simp
       refine hK _ _ ?_
       clear hK KK
       refine wpAny_ready (rs := [17]) (by decide +kernel) (by simp) ?_
       refine AllReady.cons rfl (fun KK hK => ?_) AllReady.nil
       go_simp
       (with_reducible refine (HWR.out).mono ?_)
       rintro e u1 ⟨rfl, ⟨F3, h3⟩, t3⟩
       go_simp
       refine hK _ _ ?_
       clear hK KK
       refine Reg.take_at (i := 18) (d := 10) (v := ?_) rfl rfl (by kernel_rfl) (by kernel_rfl) (by kernel_rfl) (fun _ _ _ h => h) (Or.inl ⟨by rfl, ?_⟩) ?_
       rotate_left 1
       ·intro w; go_simp <;> with_reducible rfl
       simp only [Act.put, List.setIfInBounds_toArray, List.set_cons_zero, List.set_cons_succ]
       refine wpAny_done (by kernel_rfl) ?_ _
       have H3 := Lib.hid (h3.up (show m + 2000 * (k : Int) + 2000 ≤ m + 2000 * ((k + 1 : Nat) : Int) by push_cast; omega))
       have T3 := Lib.hid (Tu.out.step t3)
       clear h3 t3 hcl g2
       go_wp2_with fail
       go_roundw
       case rel => exact ⟨k + 1, _, F3, by omega, by go_num, H3.out, T3.out, Or.inr ⟨by omega, HST.out⟩⟩
       case measure => simp [intOf]; omega
      refine AllReady.cons rfl (fun KK hK => ?_) AllReady.nil
      go_simp
      (with_reducible refine (HIT.out).mono ?_)
      rintro e u9 ⟨rfl, rfl⟩
      go_simp
      refine hK _ _ ?_
      clear hK KK
      refine wpAny_ready (rs := [4, 16]) (by decide +kernel) (by simp) ?_
      refine AllReady.cons rfl (fun KK hK => ?_) ?_
      ·go_simp
       refine hK _ _ ?_
       clear hK KK
       refine wpAny_ready (rs := [16]) (by decide +kernel) (by simp) ?_
       refine AllReady.cons rfl (fun KK hK => ?_) AllReady.nil
       go_simp
       (with_reducible refine (HIS.out).mono ?_)
       rintro e u9 ⟨rfl, rfl⟩
       go_simp
       refine hK _ _ ?_
       clear hK KK
       refine wpAny_ready (rs := [17]) (by decide +kernel) (by simp) ?_
       refine AllReady.cons rfl (fun KK hK => ?_) AllReady.nil
       go_simp
       (with_reducible refine (HWR.out).mono ?_)
       rintro e u1 ⟨rfl, ⟨F3, h3⟩, t3⟩
       go_simp
       refine hK _ _ ?_
       clear hK KK
       refine Reg.take_at (i := 18) (d := 10) (v := ?_) rfl rfl (by kernel_rfl) (by kernel_rfl) (by kernel_rfl) (fun _ _ _ h => h) (Or.inl ⟨by rfl, ?_⟩) ?_
       rotate_left 1
       ·intro w; go_simp <;> with_reducible rfl
       simp only [Act.put, List.setIfInBounds_toArray, List.set_cons_zero, List.set_cons_succ]
       refine wpAny_done (by kernel_rfl) ?_ _
       have H3 := Lib.hid (h3.up (show m + 2000 * (k : Int) + 2000 ≤ m + 2000 * ((k + 1 : Nat) : Int) by push_cast; omega))
       have T3 := Lib.hid (Tu.out.step t3)
       clear h3 t3 hcl g2
       go_wp2_with fail
       go_roundw
       case rel => exact ⟨k + 1, _, F3, by omega, by go_num, H3.out, T3.out, Or.inr ⟨by omega, HST.out⟩⟩
       case measure => simp [intOf]; omega
      refine AllReady.cons rfl (fun KK hK => ?_) AllReady.nil
      go_simp
      (with_reducible refine (HIS.out).mono ?_)
      rintro e u9 ⟨rfl, rfl⟩
      go_simp
      refine hK _ _ ?_
      clear hK KK
      refine wpAny_ready (rs := [4]) (by decide +kernel) (by simp) ?_
      refine AllReady.cons rfl (fun KK hK => ?_) AllReady.nil
      go_simp
      refine hK _ _ ?_
      clear hK KK
      refine wpAny_ready (rs := [17]) (by decide +kernel) (by simp) ?_
      refine AllReady.cons rfl (fun KK hK => ?_) AllReady.nil
      go_simp
      (with_reducible refine (HWR.out).mono ?_)
      rintro e u1 ⟨rfl, ⟨F3, h3⟩, t3⟩
      go_simp
      refine hK _ _ ?_
      clear hK KK
      refine Reg.take_at (i := 18) (d := 10) (v := ?_) rfl rfl (by kernel_rfl) (by kernel_rfl) (by kernel_rfl) (fun _ _ _ h => h) (Or.inl ⟨by rfl, ?_⟩) ?_
      rotate_left 1
      ·intro w; go_simp <;> with_reducible rfl
      simp only [Act.put, List.setIfInBounds_toArray, List.set_cons_zero, List.set_cons_succ]
      refine wpAny_done (by kernel_rfl) ?_ _
      have H3 := Lib.hid (h3.up (show m + 2000 * (k : Int) + 2000 ≤ m + 2000 * ((k + 1 : Nat) : Int) by push_cast; omega))
      have T3 := Lib.hid (Tu.out.step t3)
      clear h3 t3 hcl g2
      go_wp2_with fail
      go_roundw
      case rel => exact ⟨k + 1, _, F3, by omega, by go_num, H3.out, T3.out, Or.inr ⟨by omega, HST.out⟩⟩
      case measure => simp [intOf]; omega
     refine AllReady.cons rfl (fun KK hK => ?_) AllReady.nil
     go_simp
     (with_reducible refine (HIT.out).mono ?_)
     rintro e u9 ⟨rfl, rfl⟩
     go_simp
     refine hK _ _ ?_
     clear hK KK
     refine wpAny_ready (rs := [4, 9, 16]) (by decide +kernel) (by simp) ?_
     refine AllReady.cons rfl (fun KK hK => ?_) ?_
     ·go_simp
      refine hK _ _ ?_
      clear hK KK
      refine wpAny_ready (rs := [9, 16]) (by decide +kernel) (by simp) ?_
      refine AllReady.cons rfl (fun KK hK => ?_) ?_
      ·go_simp
       refine hK _ _ ?_
       clear hK KK
       refine wpAny_ready (rs := [16]) (by decide +kernel) (by simp) ?_
       refine AllReady.cons rfl (fun KK hK => ?_) AllReady.nil
       go_simp
       (with_reducible refine (HIS.out).mono ?_)
       rintro e u9 ⟨rfl, rfl⟩
       go_simp
       refine hK _ _ ?_
       clear hK KK
       refine wpAny_ready (rs := [17]) (by decide +kernel) (by simp) ?_
       refine AllReady.cons rfl (fun KK hK => ?_) AllReady.nil
       go_simp
       (with_reducible refine (HWR.out).mono ?_)
       rintro e u1 ⟨rfl, ⟨F3, h3⟩, t3⟩
       go_simp
       refine hK _ _ ?_
       clear hK KK
       refine Reg.take_at (i := 18) (d := 10) (v := ?_) rfl rfl (by kernel_rfl) (by kernel_rfl) (by kernel_rfl) (fun _ _ _ h => h) (Or.inl ⟨by rfl, ?_⟩) ?_
       rotate_left 1
       ·intro w; go_simp <;> with_reducible rfl
       simp only [Act.put, List.setIfInBounds_toArray, List.set_cons_zero, List.set_cons_succ]
       refine wpAny_done (by kernel_rfl) ?_ _
       have H3 := Lib.hid (h3.up (show m + 2000 * (k : Int) + 2000 ≤ m + 2000 * ((k + 1 : Nat) : Int) by push_cast; omega))
       have T3 := Lib.hid (Tu.out.step t3)
       clear h3 t3 hcl g2
       go_wp2_with fail
       go_roundw
       case rel => exact ⟨k + 1, _, F3, by omega, by go_num, H3.out, T3.out, Or.inr ⟨by omega, HST.out⟩⟩
       case measure => simp [intOf]; omega
      refine AllReady.cons rfl (fun KK hK => ?_) AllReady.nil
      go_simp
      (with_reducible refine (HIS.out).mono ?_)
      rintro e u9 ⟨rfl, rfl⟩
      go_simp
      refine hK _ _ ?_
      clear hK KK
      refine wpAny_ready (rs := [9]) (by decide +kernel) (by simp) ?_
      refine AllReady.cons rfl (fun KK hK => ?_) AllReady.nil
      go_simp
      refine hK _ _ ?_
      clear hK KK
      refine wpAny_ready (rs := [17]) (by decide +kernel) (by simp) ?_
      refine AllReady.cons rfl (fun KK hK => ?_) AllReady.nil
      go_simp
      (with_reducible refine (HWR.out).mono ?_)
      rintro e u1 ⟨rfl, ⟨F3, h3⟩, t3⟩
      go_simp
      refine hK _ _ ?_
      clear hK KK
      refine Reg.take_at (i := 18) (d := 10) (v := ?_) rfl rfl (by kernel_rfl) (by kernel_rfl) (by kernel_rfl) (fun _ _ _ h => h) (Or.inl ⟨by rfl, ?_⟩) ?_
      rotate_left 1
      ·intro w; go_simp <;> with_reducible rfl
      simp only [Act.put, List.setIfInBounds_toArray, List.set_cons_zero, List.set_cons_succ]
      refine wpAny_done (by kernel_rfl) ?_ _
      have H3 := Lib.hid (h3.up (show m + 2000 * (k : Int) + 2000 ≤ m + 2000 * ((k + 1 : Nat) : Int) by push_cast; omega))
      have T3 := Lib.hid (Tu.out.step t3)
      clear h3 t3 hcl g2
      go_wp2_with fail
      go_roundw
      case rel => exact ⟨k + 1, _, F3, by omega, by go_num, H3.out, T3.out, Or.inr ⟨by omega, HST.out⟩⟩
      case measure => simp [intOf]; omega
     refine AllReady.cons rfl (fun KK hK => ?_) ?_
     ·go_simp
      refine hK _ _ ?_
      clear hK KK
      refine wpAny_ready (rs := [4, 16]) (by decide +kernel) (by simp) ?_
      refine AllReady.cons rfl (fun KK hK => ?_) ?_
      ·go_simp
       refine hK _ _ ?_
       clear hK KK
       refine wpAny_ready (rs := [16]) (by decide +kernel) (by simp) ?_
       refine AllReady.cons rfl (fun KK hK => ?_) AllReady.nil
       go_simp
       (with_reducible refine (HIS.out).mono ?_)
       rintro e u9 ⟨rfl, rfl⟩
       go_simp
       refine hK _ _ ?_
       clear hK KK
       refine wpAny_ready (rs := [17]) (by decide +kernel) (by simp) ?_
       refine AllReady.cons rfl (fun KK hK => ?_) AllReady.nil
       go_simp
       (with_reducible refine (HWR.out).mono ?_)
       rintro e u1 ⟨rfl, ⟨F3, h3⟩, t3⟩
       go_simp
       refine hK _ _ ?_
       clear hK KK
       refine Reg.take_at (i := 18) (d := 10) (v := ?_) rfl rfl (by kernel_rfl) (by kernel_rfl) (by kernel_rfl) (fun _ _ _ h => h) (Or.inl ⟨by rfl, ?_⟩) ?_
       rotate_left 1
       ·intro w; go_simp <;> with_reducible rfl
       simp only [Act.put, List.setIfInBounds_toArray, List.set_cons_zero, List.set_cons_succ]
       refine wpAny_done (by kernel_rfl) ?_ _
       have H3 := Lib.hid (h3.up (show m + 2000 * (k : Int) + 2000 ≤ m + 2000 * ((k + 1 : Nat) : Int) by push_cast; omega))
       have T3 := Lib.hid (Tu.out.step t3)
       clear h3 t3 hcl g2
       go_wp2_with fail
       go_roundw
       case rel => exact ⟨k + 1, _, F3, by omega, by go_num, H3.out, T3.out, Or.inr ⟨by omega, HST.out⟩⟩
       case measure => simp [intOf]; omega
      refine AllReady.cons rfl (fun KK hK => ?_) AllReady.nil
      go_simp
      (with_reducible refine (HIS.out).mono ?_)
      rintro e u9 ⟨rfl, rfl⟩
      go_simp
      refine hK _ _ ?_
      clear hK KK
      refine wpAny_ready (rs := [4]) (by decide +kernel) (by simp) ?_
      refine AllReady.cons rfl (fun KK hK => ?_) AllReady.nil
      go_simp
      refine hK _ _ ?_
      clear hK KK
      refine wpAny_ready (rs := [17]) (by decide +kernel) (by simp) ?_
      refine AllReady.cons rfl (fun KK hK => ?_) AllReady.nil
      go_simp
      (with_reducible refine (HWR.out).mono ?_)
      rintro e u1 ⟨rfl, ⟨F3, h3⟩, t3⟩
      go_simp
      refine hK _ _ ?_
      clear hK KK
      refine Reg.take_at (i := 18) (d := 10) (v := ?_) rfl rfl (by kernel_rfl) (by kernel_rfl) (by kernel_rfl) (fun _ _ _ h => h) (Or.inl ⟨by rfl, ?_⟩) ?_
      rotate_left 1
      ·intro w; go_simp <;> with_reducible rfl
      simp only [Act.put, List.setIfInBounds_toArray, List.set_cons_zero, List.set_cons_succ]
      refine wpAny_done (by kernel_rfl) ?_ _
      have H3 := Lib.hid (h3.up (show m + 2000 * (k : Int) + 2000 ≤ m + 2000 * ((k + 1 : Nat) : Int) by push_cast; omega))
      have T3 := Lib.hid (Tu.out.step t3)
      clear h3 t3 hcl g2
      go_wp2_with fail
      go_roundw
      case rel => exact ⟨k + 1, _, F3, by omega, by go_num, H3.out, T3.out, Or.inr ⟨by omega, HST.out⟩⟩
      case measure => simp [intOf]; omega
     refine AllReady.cons rfl (fun KK hK => ?_) AllReady.nil
     go_simp
     (with_reducible refine (HIS.out).mono ?_)
     rintro e u9 ⟨rfl, rfl⟩
     go_simp
     refine hK _ _ ?_
     clear hK KK
     refine wpAny_ready (rs := [4, 9]) (by decide +kernel) (by simp) ?_
     refine AllReady.cons rfl (fun KK hK => ?_) ?_
     ·go_simp
      refine hK _ _ ?_
      clear hK KK
      refine wpAny_ready (rs := [9]) (by decide +kernel) (by simp) ?_
      refine AllReady.cons rfl (fun KK hK => ?_) AllReady.nil
      go_simp
      refine hK _ _ ?_
      clear hK KK
      refine wpAny_ready (rs := [17]) (by decide +kernel) (by simp) ?_
      refine AllReady.cons rfl (fun KK hK => ?_) AllReady.nil
      go_simp
      (with_reducible refine (HWR.out).mono ?_)
      rintro e u1 ⟨rfl, ⟨F3, h3⟩, t3⟩
      go_simp
      refine hK _ _ ?_
      clear hK KK
      refine Reg.take_at (i := 18) (d := 10) (v := ?_) rfl rfl (by kernel_rfl) (by kernel_rfl) (by kernel_rfl) (fun _ _ _ h => h) (Or.inl ⟨by rfl, ?_⟩) ?_
      rotate_left 1
      ·intro w; go_simp <;> with_reducible rfl
      simp only [Act.put, List.setIfInBounds_toArray, List.set_cons_zero, List.set_cons_succ]
      refine wpAny_done (by kernel_rfl) ?_ _
      have H3 := Lib.hid (h3.up (show m + 2000 * (k : Int) + 2000 ≤ m + 2000 * ((k + 1 : Nat) : Int) by push_cast; omega))
      have T3 := Lib.hid (Tu.out.step t3)
      clear h3 t3 hcl g2
      go_wp2_with fail
      go_roundw
      case rel => exact ⟨k + 1, _, F3, by omega, by go_num, H3.out, T3.out, Or.inr ⟨by omega, HST.out⟩⟩
      case measure => simp [intOf]; omega
     refine AllReady.cons rfl (fun KK hK => ?_) AllReady.nil
     go_simp
     refine hK _ _ ?_
     clear hK KK
     refine wpAny_ready (rs := [4]) (by decide +kernel) (by simp) ?_
     refine AllReady.cons rfl (fun KK hK => ?_) AllReady.nil
     go_simp
     refine hK _ _ ?_
     clear hK KK
     refine wpAny_ready (rs := [17]) (by decide +kernel) (by simp) ?_
     refine AllReady.cons rfl (fun KK hK => ?_) AllReady.nil
     go_simp
     (with_reducible refine (HWR.out).mono ?_)
     rintro e u1 ⟨rfl, ⟨F3, h3⟩, t3⟩
     go_simp
     refine hK _ _ ?_
     clear hK KK
     refine Reg.take_at (i := 18) (d := 10) (v := ?_) rfl rfl (by kernel_rfl) (by kernel_rfl) (by kernel_rfl) (fun _ _ _ h => h) (Or.inl ⟨by rfl, ?_⟩) ?_
     rotate_left 1
     ·intro w; go_simp <;> with_reducible rfl
     simp only [Act.put, List.setIfInBounds_toArray, List.set_cons_zero, List.set_cons_succ]
     refine wpAny_done (by kernel_rfl) ?_ _
     have H3 := Lib.hid (h3.up (show m + 2000 * (k : Int) + 2000 ≤ m + 2000 * ((k + 1 : Nat) : Int) by push_cast; omega))
     have T3 := Lib.hid (Tu.out.step t3)
     clear h3 t3 hcl g2
     go_wp2_with fail
     go_roundw
     case rel => exact ⟨k + 1, _, F3, by omega, by go_num, H3.out, T3.out, Or.inr ⟨by omega, HST.out⟩⟩
     case measure => simp [intOf]; omega
    ·obtain rfl : k = dv.length := by omega
     have hag : Agree Sk { P with fl := R.fl, pg := R.pg, len := R.len, rd := rdw (P.x.ep + 1) dv R.fl P.rd dv.length } := by
      rcases HDk.out with ⟨q1, q2⟩ | ⟨_, q⟩
      ·have hn : dv = [] := List.eq_nil_of_length_eq_zero q1
       have := HFI.out.2.2.2.2.2 hn
       rw [q2, q1]
       exact HA.out.of rfl this.1 this.2 rfl
      ·exact q
     have hsy := hag.sync
     have d0 := (pgc HCk.out.st).1.1
     have hlo := HCk.out.lo
     have hcall := DiskSync.sync_dk HCk.out.dk (by have := HP.out.2.2.1; omega)
     go_wp2_with fail
     (with_reducible refine hcall.mono ?_)
     clear hcall
     rintro e w5 ⟨rfl, hw⟩
     obtain ⟨⟨F5, h5⟩, t5⟩ := HCk.out.went hw (by rw [hsy.2.1]; show ((0 : Nat) : Int) * 1000 ≤ _; omega)
     have H5 := Lib.hid (h5.up (show m + 2000 * (dv.length : Int) ≤ m + 700000 by omega))
     have hw5 := HTk.out.step t5
     have HRK5 := Lib.hid (HRK.out.turn hw5 fun _ q z => z q.1)
     have T5 := Lib.hid (T2.out.step (hw5.mono fun i _ hi hx => hi (HXY.out i hx)))
     have HAG := Lib.hid hsy.1
     clear hw h5 t5 hw5 hsy hag d0 hlo
     go_wp2_with fail
     go_ret2
     exact ⟨K, ck, _, Y, rfl, ⟨_, _, _, _, _, _, _, _, H5.out⟩, HXY.out, HRK5.out, HCK.out, HAG.out, T5.out⟩
end
end Go.Proofs.YtpidnkfcccboaaaGreat.PagerCode
