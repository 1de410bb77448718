/- PagerRecall, PagerOpenC. -/
import Derived.Test.YtpidnkfcccboaaaGreatKPagerFindP
import Derived.Test.YtpidnkfcccboaaaGreatKPagerKeep
import Derived.Test.YtpidnkfcccboaaaGreatKPagerOf
import Derived.BigQuiet
namespace Go.Proofs.YtpidnkfcccboaaaGreat.PagerCode
open Go.RowKit Base PagePlain PageSmall FreePlain FreePlain2 FreeMem FreePages FreeOf FreeCellsOf SuperPlain SuperRefCheck PagerPlain PagerTold PagerNum PagerSpec PagerTellP SumOf DiskPlain DiskMem DiskSmall PagerMem PagerDisk Go.Maps

theorem of_pages {cs : Cs} {l l' : Fs} (h : PagesOf cs l) (h' : PagesOf cs l') (hg : Gd l) (hg' : Gd l') : l = l' := by
 rw [← par_texts hg.1, ← par_texts hg'.1, ← h.2, ← h'.2]
set_option maxRecDepth 100000 in
set_option maxHeartbeats 12800000 in
theorem cellsAt_chunk (l : Fs) (i : Nat) : cellsAt l i = texts ((l.drop (i * 23)).take 23) := by
 unfold cellsAt texts
 rw [List.map_take, List.map_drop, Nat.mul_comm]
theorem last_of {ps : List Ps} {l : Fs} {n : Nat} (h : cellsP ps = first_ l n) (hf : l.length ≤ 23 * n) : Last_ ps ((l.length + 22) / 23) ∧ cellsP (ps.take ((l.length + 22) / 23)) = FreeCells.chunks ((l.length + 22) / 23) l := by
 have hl : ps.length = n := by have := congrArg List.length h; rw [firstc_len] at this; simpa [cellsP] using this
 have hat : ∀ i (hi : i < ps.length), (ps[i]).2.2 = cellsAt l i := fun i hi => by
  have h1 : (cellsP ps)[i]? = (first_ l n)[i]? := by rw [h]
  simpa [cellsP, first_, hi, show i < n by omega] using h1
 have hlen : ∀ i, (cellsAt l i).length = min 23 (l.length - i * 23) := fun i => by
  rw [cellsAt_chunk]; simp [texts]
 refine ⟨⟨by omega, fun i hi hj => ?_, ?_⟩, ?_⟩
 ·rw [hat i hi]
  refine List.eq_nil_of_length_eq_zero ?_
  rw [hlen]
  omega
 ·by_cases hz : (l.length + 22) / 23 = 0
  ·exact Or.inl hz
  ·refine Or.inr ⟨by omega, fun q => ?_⟩
   rw [hat _ (by omega)] at q
   have := congrArg List.length q
   rw [hlen] at this
   simp only [List.length_nil] at this
   omega
 ·unfold cellsP
  rw [List.map_take, show ps.map (fun p => p.2.2) = first_ l n from h]
  unfold first_ FreeCells.chunks
  rw [← List.map_take, List.take_range, Nat.min_eq_left (by omega)]
  exact List.map_congr_left fun i _ => cellsAt_chunk l i
section
variable {W w w' : World} {p d g mp : Nat} {S : DS} {P P' : PS} {X Y G : Blks} {m m' : Int} {nn : Nat} {FD : Blks} {A B C : Option Addr} {a b c : Nat}
theorem chn_told {Q : PS} (hi : Inv Q) (ht : PagerTold.Told Q) (he : Q.x.ep ≤ 4000000000) (hm : Q.x.pages ≤ 300) (hrd : P.rd = Q.rd) (hpg : P.pg = Q.x.pages) : Chn P Q.x.ep Q.ch Q.tf :=
 ⟨hi.cn, fun n hn => by rw [hpg]; have := hi.tc n hn; omega, fun i h => by rw [hrd]; exact ht.chain i h, by have := hi.ep; omega, by omega, by omega⟩
set_option maxRecDepth 100000 in
set_option maxHeartbeats 25600000 in
theorem recall_any (h : Cr W p d g mp S P X m nn FD A B C a b c) (hm : m ≤ 780000000) {Q : PS} (ha : Agree S Q) (hi : Inv Q) (ht : PagerTold.Told Q) (hq : Q.most ≤ 300) (he : Q.x.ep ≤ 4000000000) (e1 : P.most = Q.most) (e2 : P.len = Q.len) (e3 : P.rd = Q.rd) : Calls Tryz.prog 43 #[.pointer (some ⟨p, 0, none⟩), sv Q.x] W fun e w' =>
  e = .returned (.int .i64 0) ∧ Cw w' p d g mp S (P.kept Q.x Q.ch Q.tf) X (m + 400000) ∧ Turn (Not X) W w' := by
 have i1 := hi.len
 have i2 := hi.most
 have i4 := hi.xg
 have i5 := hi.xp
 have i6 := hi.ep
 have i7 := ha.pg
 have hxp : Q.x.pages ≤ 300 := by omega
 have hchn : Chn { P with pg := Q.x.pages } Q.x.ep Q.ch Q.tf := chn_told hi ht he hxp e3 rfl
 have hag : Agree S { P with pg := Q.x.pages } := ⟨by rw [ha.most]; exact e1.symm, ha.live, by show Q.x.pages ≤ _; omega, by show (S.last.length : Int) ≤ P.len; rw [e2]; exact ha.len, by show ∀ q : Nat, _ → S.rd q = P.rd q; rw [e3]; exact ha.rd, by show ∀ q : Int, _ → P.rd q = zs; rw [e3]; exact ha.rz⟩
 have hfr := ht.free
 have hfit := ht.fit
 have hgt : Gd Q.tf := ⟨fun q hq => by have := hi.tr q hq; unfold Fit; omega, hi.trise⟩
 have htl : Q.tf.length ≤ 300 := by
  have h1 := (rise_nodup hi.trise).length_le_of_subset (l₂ := FreeCov.rng (Q.x.pages - 2).toNat) fun n hn => by
   obtain ⟨q, hq⟩ := mem_ks.1 hn
   have := hi.tr _ hq
   exact FreeCov.mem_rng.2 ⟨by omega, by simp only at this; omega⟩
  rw [FreeCov.len_rng] at h1
  simp only [ks, List.length_map] at h1
  omega
 have hchl : Q.ch.length ≤ 300 := by have := hchn.len (show 2 ≤ Q.x.pages by omega); have h9 : ({ P with pg := Q.x.pages } : PS).pg = Q.x.pages := rfl; omega
 have hall : ∀ q ∈ Q.tf, 2 ≤ q.1 ∧ q.1 < Q.x.pages := fun q hq => ⟨(hi.tr q hq).1, (hi.tr q hq).2.1⟩
 -- the boxes
 obtain ⟨w1, hw1⟩ : ∃ v, v = W.alloc (.cells #[.pointer (some ⟨p, 0, none⟩)] 23) := ⟨_, rfl⟩
 have b1 : Below W.heap.size W w1 := by rw [hw1]; exact al_ _ _
 have y1 : At w1 W.heap.size 23 #[.pointer (some ⟨p, 0, none⟩)] := by rw [hw1]; exact heap_alloc_new W _
 obtain ⟨w2, hw2⟩ : ∃ v, v = w1.alloc (.cells #[.int .i64 Q.x.ep, .int .i64 Q.x.root, .int .i64 Q.x.free, .int .i64 Q.x.pages] 29) := ⟨_, rfl⟩
 have b2 : Below w1.heap.size w1 w2 := by rw [hw2]; exact al_ _ _
 have z2 : SuperSpec.Bs w2 w1.heap.size Q.x := by rw [hw2]; exact SuperSpec.bs_new w1 Q.x
 have y2 : At w2 W.heap.size 23 #[.pointer (some ⟨p, 0, none⟩)] := y1.same (b2.block _ y1.lt)
 have h2 := (h.more b1).more b2
 have hXY : ∀ i, X i → Plus (Plus X W w1) w1 w2 i := fun i hi => Or.inl (Or.inl hi)
 have hYb : Plus (Plus X W w1) w1 w2 W.heap.size := Or.inl (Or.inr ⟨Nat.le_refl _, y1.lt⟩)
 have hYc : Plus (Plus X W w1) w1 w2 w1.heap.size := Or.inr ⟨Nat.le_refl _, At.lt z2⟩
 have T2 := Lib.hid (show Turn (Not X) W w2 from (Turn.ofBelow b1).step (Turn.ofBelow b2))
 have hbb : W.heap.size ≠ w1.heap.size := Nat.ne_of_lt y1.lt
 have hpb : p ≠ W.heap.size := Nat.ne_of_lt h.st.lt
 have hpc : p ≠ w1.heap.size := by have := h.st.lt; have := b1.size; omega
 have HW1 := Lib.hid hw1
 have HW2 := Lib.hid hw2
 have hb1 : W.heap.size + 1 = w1.heap.size := by rw [hw1]; simp
 generalize hbx : W.heap.size = bx at y2 hYb hbb hpb
 generalize hby : w1.heap.size = bz at z2 hYc hbb hpc
 generalize Plus (Plus X W w1) w1 w2 = Y at h2 hXY hYb hYc
 obtain ⟨x0, x1, x2, x3⟩ := sup_cells z2
 have y0 : w2.cell? ⟨bx, 0, none⟩ = some (.pointer (some ⟨p, 0, none⟩)) := by rw [y2.cell]; rfl
 have c0 := (pgc h2.st).1.1
 have c2 := (pgc h2.st).1.2.2
 have f2 := h2.st.frozen 2
 obtain ⟨h3, t3⟩ := h2.setPg Q.x.pages
 have y3 : At (w2.setCell ⟨p, 2, none⟩ (.int .i64 Q.x.pages)) bx 23 #[.pointer (some ⟨p, 0, none⟩)] := y2.same (t3.block _ y2.lt fun z => hpb z.symm)
 have z3 : SuperSpec.Bs (w2.setCell ⟨p, 2, none⟩ (.int .i64 Q.x.pages)) bz Q.x := At.same z2 (t3.block _ (At.lt z2) fun z => hpc z.symm)
 have T3 := Lib.hid (show Turn (Not X) W (w2.setCell ⟨p, 2, none⟩ (.int .i64 Q.x.pages)) from T2.out.step ((h2.notX t3).mono fun i _ hi hx => hi (hXY i hx)))
 have hpgs : ∀ n, Calls Tryz.prog 65 #[.pointer (some ⟨d, 0, none⟩)] (w2.drewN n) fun e w' => e = .returned (.int .i64 (S.last.length : Int)) ∧ w' = w2.drewN n := fun n => (pages_dk (h2.dk.below (Base.below_drewN _ _ n))).mono fun _ _ hq => ⟨hq.1, hq.2.symm⟩
 have hle : ¬ (Q.x.pages > (S.last.length : Int)) := by omega
 have HYX := Lib.hid hXY
 have HXL := Lib.hid h.xl
 have hQ := Lib.hid (And.intro hchn (And.intro hag (And.intro hfr (And.intro hfit (And.intro hgt hall)))))
 have HX2 := Lib.hid (show 2 ≤ Q.x.pages by omega)
 generalize (S.last.length : Int) = sl at *
 have hm0 : 0 ≤ m := by
  obtain ⟨n, n0, n1, _⟩ := h.su
  omega
 clear h h2 hw1 hw2 b1 b2 y1 y2 z2 ha hi ht t3 hchn hag hfr hfit hgt hall hXY i1 i2 i4 i5 i6 i7 e1 e2 e3
 go_enter Tryz.func43, Tryz.ntmps43
 go_upto_region 1 with fail
 try rw [show (W.alloc (.cells #[.pointer (some ⟨p, 0, none⟩)] 23)) = w1 from HW1.out.symm]
 try rw [hb1]
 try rw [hbx]
 try rw [← HW2.out]
 try rw [hby]
 have hb2 : bx + 1 = bz := by rw [← hbx, ← hby]; exact hb1
 try rw [hb2]
 clear hbx hby HW1 HW2 hb1 hb2
 go_quiet ((go_at_call 65; exact Calls.quiet_of_same (hpgs _)))
 go_upto_region 4 with fail
 obtain ⟨w3, hw3⟩ : ∃ v, v = (w2.drewN nq).setCell ⟨p, 2, none⟩ (.int .i64 Q.x.pages) := ⟨_, rfl⟩
 rw [← hw3]
 have hd3 : Below (w2.setCell ⟨p, 2, none⟩ (.int .i64 Q.x.pages)).heap.size (w2.setCell ⟨p, 2, none⟩ (.int .i64 Q.x.pages)) w3 := by rw [hw3]; exact Base.below_drewN (w2.setCell ⟨p, 2, none⟩ (.int .i64 Q.x.pages)) _ nq
 have h3q := h3.below hd3
 have y3q := y3.same (hd3.block _ y3.lt)
 have z3q : SuperSpec.Bs w3 bz Q.x := At.same z3 (hd3.block _ (At.lt z3))
 have T3q := Lib.hid (T3.out.step (Turn.ofBelow hd3))
 clear h3 y3 z3 hd3 hw3 c0 c2 f2 x0 x1 x2 x3 y0 hpgs hle T2 T3
 refine wp_region_any (by kernel_rfl) ?_
 change wpAny _ _ _ _ _ _ _ (World.drew _)
 generalize hu0 : World.drew w3 = u0
 have h4 : Cr u0 p d g mp S { P with pg := Q.x.pages } Y m nn FD A B C a b c := by rw [← hu0]; exact h3q.below (Below.refl _ _).drew
 have y4 : At u0 bx 23 #[.pointer (some ⟨p, 0, none⟩)] := by rw [← hu0]; exact y3q
 have z4 : SuperSpec.Bs u0 bz Q.x := by rw [← hu0]; exact z3q
 have T4 := Lib.hid (show Turn (Not X) W u0 by rw [← hu0]; exact T3q.out.step (Turn.ofBelow (Below.refl _ _).drew))
 obtain ⟨x0, x1, x2, x3⟩ := sup_cells z4
 have y40 : u0.cell? ⟨bx, 0, none⟩ = some (.pointer (some ⟨p, 0, none⟩)) := by rw [y4.cell]; rfl
 have HCF := Lib.hid (chainFrom_any h4 hQ.out.2.1 (by omega) hQ.out.1 HX2.out Q.x.free hQ.out.2.2.1)
 clear h4 hu0 h3q y3q z3q
 refine Reg.take_at (i := 3) (d := 29) (v := ?_) rfl rfl (by kernel_rfl) (by kernel_rfl) (by kernel_rfl) (fun _ _ _ h => h) (Or.inl ⟨by rfl, ?_⟩) ?_
 rotate_left 1
 ·intro w; go_simp <;> with_reducible rfl
 simp only [Act.put, List.setIfInBounds_toArray, List.set_cons_zero, List.set_cons_succ]
 refine wpAny_ready (rs := [0, 4]) (by decide +kernel) (by simp) ?_
 refine AllReady.cons rfl (fun KK hK => ?_) ?_
 ·go_simp
  refine hK _ _ ?_
  clear hK KK
  refine Reg.take_at (i := 1) (d := 27) (v := ?_) rfl rfl (by kernel_rfl) (by kernel_rfl) (by kernel_rfl) (fun _ _ _ h => h) (Or.inl ⟨by rfl, ?_⟩) ?_
  rotate_left 1
  ·intro w; go_simp <;> with_reducible rfl
  simp only [Act.put, List.setIfInBounds_toArray, List.set_cons_zero, List.set_cons_succ]
  refine Reg.take_at (i := 2) (d := 28) (v := ?_) rfl rfl (by kernel_rfl) (by kernel_rfl) (by kernel_rfl) (fun _ _ _ h => h) (Or.inl ⟨by rfl, ?_⟩) ?_
  rotate_left 1
  ·intro w; go_simp <;> with_reducible rfl
  simp only [Act.put, List.setIfInBounds_toArray, List.set_cons_zero, List.set_cons_succ]
  refine wpAny_ready (rs := [4]) (by decide +kernel) (by simp) ?_
  refine AllReady.cons rfl (fun KK hK => ?_) AllReady.nil
  go_simp
  refine hK _ _ ?_
  clear hK KK
  refine wpAny_ready (rs := [5]) (by decide +kernel) (by simp) ?_
  refine AllReady.cons rfl (fun KK hK => ?_) AllReady.nil
  go_simp
  (with_reducible refine (HCF.out).mono ?_)
  rintro e u1 ⟨K, ck, L, cl, ps, Z, rfl, h5, hZ, rK, hck, rL, rI, hps, hcl, t5⟩
  have y5 : At u1 bx _ _ := y4.same (t5.block _ y4.lt fun z => z hYb)
  have z5 : SuperSpec.Bs u1 bz Q.x := At.same z4 (t5.block _ (At.lt z4) fun z => z hYc)
  have T5 := Lib.hid (T4.out.step (t5.mono fun i _ hi hx => hi (HYX.out i hx)))
  have HRK := Lib.hid (show RowP u1 (fun i => Z i ∧ ¬ X i) K (intsV Q.ch) from rK.wide fun i hi => ⟨hi.1, fun z => hi.2 (HYX.out i z)⟩)
  have HCK := Lib.hid hck
  have HRL := Lib.hid rL
  have HRI := Lib.hid rI
  have HPS := Lib.hid hps
  have H5 := Lib.hid h5
  have HZX := Lib.hid (show ∀ i, X i → Z i from fun i hi => hZ i (HYX.out i hi))
  have HPL := Lib.hid (show Q.ch.length = ps.length by have := congrArg List.length hps; rw [firstc_len] at this; simpa [cellsP] using this.symm)
  have HWE := Lib.hid (wee_any u1 L Q.ch.length cl ps HPL.out (by rw [← HPL.out]; exact hcl) (by rw [← HPL.out]; omega) rL.row)
  clear h5 hZ rK hck rL rI hps t5 y4 z4
  go_simp
  refine hK _ _ ?_
  clear hK KK hcl
  refine Reg.take_at (i := 6) (d := 25) (v := ?_) rfl rfl (by kernel_rfl) (by kernel_rfl) (by kernel_rfl) (fun _ _ _ h => h) (Or.inl ⟨by rfl, ?_⟩) ?_
  rotate_left 1
  ·intro w; go_simp <;> with_reducible rfl
  simp only [Act.put, List.setIfInBounds_toArray, List.set_cons_zero, List.set_cons_succ]
  refine Reg.take_at (i := 7) (d := 32) (v := ?_) rfl rfl (by kernel_rfl) (by kernel_rfl) (by kernel_rfl) (fun _ _ _ h => h) (Or.inl ⟨by rfl, ?_⟩) ?_
  rotate_left 1
  ·intro w; go_simp <;> with_reducible rfl
  simp only [Act.put, List.setIfInBounds_toArray, List.set_cons_zero, List.set_cons_succ]
  refine Reg.take_at (i := 8) (d := 33) (v := ?_) rfl rfl (by kernel_rfl) (by kernel_rfl) (by kernel_rfl) (fun _ _ _ h => h) (Or.inl ⟨by rfl, ?_⟩) ?_
  rotate_left 1
  ·intro w; go_simp <;> with_reducible rfl
  simp only [Act.put, List.setIfInBounds_toArray, List.set_cons_zero, List.set_cons_succ]
  refine Reg.take_at (i := 9) (d := 34) (v := ?_) rfl rfl (by kernel_rfl) (by kernel_rfl) (by kernel_rfl) (fun _ _ _ h => h) (Or.inl ⟨by rfl, ?_⟩) ?_
  rotate_left 1
  ·intro w; go_simp <;> with_reducible rfl
  simp only [Act.put, List.setIfInBounds_toArray, List.set_cons_zero, List.set_cons_succ]
  refine Reg.take_at (i := 10) (d := 5) (v := ?_) rfl rfl (by kernel_rfl) (by kernel_rfl) (by kernel_rfl) (fun _ _ _ h => h) (Or.inl ⟨by rfl, ?_⟩) ?_
  rotate_left 1
  ·intro w; go_simp <;> with_reducible rfl
  simp only [Act.put, List.setIfInBounds_toArray, List.set_cons_zero, List.set_cons_succ]
  refine Reg.take_at (i := 11) (d := 6) (v := ?_) rfl rfl (by kernel_rfl) (by kernel_rfl) (by kernel_rfl) (fun _ _ _ h => h) (Or.inl ⟨by rfl, ?_⟩) ?_
  rotate_left 1
  ·intro w; go_simp <;> with_reducible rfl
  simp only [Act.put, List.setIfInBounds_toArray, List.set_cons_zero, List.set_cons_succ]
  refine Reg.take_at (i := 12) (d := 7) (v := ?_) rfl rfl (by kernel_rfl) (by kernel_rfl) (by kernel_rfl) (fun _ _ _ h => h) (Or.inl ⟨by rfl, ?_⟩) ?_
  rotate_left 1
  ·intro w; go_simp <;> with_reducible rfl
  simp only [Act.put, List.setIfInBounds_toArray, List.set_cons_zero, List.set_cons_succ]
  refine wpAny_done (by kernel_rfl) ?_ _
  go_wp2_with fail
  (with_reducible refine (HWE.out).mono ?_)
  rintro e u2 ⟨j, hj, rfl, rfl⟩
  obtain ⟨hl1, hl2⟩ := last_of HPS.out hQ.out.2.2.2.1
  obtain rfl := last_one hj hl1
  skip
  have hof := FreeOf.of_any u1 L ((Q.tf.length + 22) / 23) cl (ps.take ((Q.tf.length + 22) / 23)) (by rw [List.length_take]; have := hl1.1; omega) (by rw [List.map_take]; exact (HRL.out.row).take _) (fun q hq => (HRI.out q (List.mem_of_mem_take hq)).row) (by rw [List.length_take]; omega) (fun q hq => by
   have hq2 := List.mem_of_mem_take hq
   have h5 : q.2.2 ∈ cellsP ps := List.mem_map.2 ⟨q, hq2, rfl⟩
   rw [HPS.out] at h5
   obtain ⟨i, _, hi5⟩ := List.mem_map.1 h5
   have := cellsAt_len Q.tf i
   rw [hi5] at this
   omega)
  unfold FreeOf.OfPost at hof
  rw [hl2] at hof
  have hpg := FreeCells.chunks_pages (l := Q.tf) rfl
  have HPG := Lib.hid hpg
  clear hl1 hl2 hj hpg
  generalize hjj : (Q.tf.length + 22) / 23 = j at *
  clear hjj
  go_wp2_with fail
  (with_reducible refine hof.mono ?_)
  clear hof
  rintro e u3 ⟨b3, hres⟩
  rcases hres with ⟨A3, m3, c3, l3, rfl, hm3, how, hg3, hp3⟩ | ⟨_, hno⟩
  rotate_left
  ·exact absurd HPG.out (hno _ hQ.out.2.2.2.2.1)
  obtain rfl := of_pages hp3 HPG.out hg3 hQ.out.2.2.2.2.1
  subst hm3
  have h6 := H5.out.below b3
  have y6 := y5.same (b3.block _ y5.lt)
  have z6 : SuperSpec.Bs u3 bz Q.x := At.same z5 (b3.block _ (At.lt z5))
  have rl6 : RowP u3 (fun i => u1.heap.size ≤ i) A3 (fr Q.tf) := ownF_rowP how
  have hc3 := how.cap.1
  have y60 : u3.cell? ⟨bx, 0, none⟩ = some (.pointer (some ⟨p, 0, none⟩)) := by rw [y6.cell]; rfl
  have hcon := contains_any u3 A3 Q.tf.length c3 Q.tf bx p Q.x.pages rfl how.row (by omega) y60 (pgc h6.st).1.2.2 y6.lt h6.st.lt hQ.out.2.2.2.2.2
  unfold clp at hcon
  have RK6 := Lib.hid (HRK.out.below b3)
  have T6 := Lib.hid (T5.out.step (Turn.ofBelow b3))
  have RL6 := Lib.hid rl6
  have HC3 := Lib.hid hc3
  have HB3 := Lib.hid b3.size
  have HN6 := Lib.hid (H5.out.newRow rl6)
  clear b3 how hg3 hp3 rl6 hc3 y60
  go_wp2_with fail
  (with_reducible refine hcon.mono ?_)
  clear hcon
  rintro e u4 ⟨rfl, b4⟩
  have h7 := h6.below b4
  have y7 := y6.same (b4.block _ y6.lt)
  have z7 : SuperSpec.Bs u4 bz Q.x := At.same z6 (b4.block _ (At.lt z6))
  obtain ⟨x0, x1, x2, x3⟩ := sup_cells z7
  have y70 : u4.cell? ⟨bx, 0, none⟩ = some (.pointer (some ⟨p, 0, none⟩)) := by rw [y7.cell]; rfl
  have hcx := h7.less (Y := X) HZX.out
  have hke := keep_any hcx Q.x (ch := Q.ch) (l := Q.tf) HCK.out HC3.out ((h7.lessRow ((RK6.out.below b4).wide fun i hi => hi))) ((HN6.out.below b4).wide fun i hi => ⟨fun z => hi.1 (HZX.out i z), hi.2⟩)
  have T7 := Lib.hid (T6.out.step (Turn.ofBelow b4))
  clear h6 h7 y6 z6 b4 hcx
  go_wp2_with fail
  (with_reducible refine hke.mono ?_)
  clear hke x0 x1 x2 x3 y70
  rintro e u5 ⟨rfl, h8, t8⟩
  have H8 := Lib.hid h8
  have T8 := Lib.hid (T7.out.step t8)
  clear h8 t8
  go_wp2_with fail
  go_ret
  exact ⟨rfl, ⟨_, _, _, _, _, _, _, _, H8.out.as rfl rfl rfl rfl rfl rfl rfl⟩, T8.out⟩
 refine AllReady.cons rfl (fun KK hK => ?_) AllReady.nil
 go_simp
 refine hK _ _ ?_
 clear hK KK
 refine wpAny_ready (rs := [0]) (by decide +kernel) (by simp) ?_
 refine AllReady.cons rfl (fun KK hK => ?_) AllReady.nil
 go_simp
 refine hK _ _ ?_
 clear hK KK
 refine Reg.take_at (i := 1) (d := 27) (v := ?_) rfl rfl (by kernel_rfl) (by kernel_rfl) (by kernel_rfl) (fun _ _ _ h => h) (Or.inl ⟨by rfl, ?_⟩) ?_
 rotate_left 1
 ·intro w; go_simp <;> with_reducible rfl
 simp only [Act.put, List.setIfInBounds_toArray, List.set_cons_zero, List.set_cons_succ]
 refine Reg.take_at (i := 2) (d := 28) (v := ?_) rfl rfl (by kernel_rfl) (by kernel_rfl) (by kernel_rfl) (fun _ _ _ h => h) (Or.inl ⟨by rfl, ?_⟩) ?_
 rotate_left 1
 ·intro w; go_simp <;> with_reducible rfl
 simp only [Act.put, List.setIfInBounds_toArray, List.set_cons_zero, List.set_cons_succ]
 refine wpAny_ready (rs := [5]) (by decide +kernel) (by simp) ?_
 refine AllReady.cons rfl (fun KK hK => ?_) AllReady.nil
 go_simp
 (with_reducible refine (HCF.out).mono ?_)
 rintro e u1 ⟨K, ck, L, cl, ps, Z, rfl, h5, hZ, rK, hck, rL, rI, hps, hcl, t5⟩
 have y5 : At u1 bx _ _ := y4.same (t5.block _ y4.lt fun z => z hYb)
 have z5 : SuperSpec.Bs u1 bz Q.x := At.same z4 (t5.block _ (At.lt z4) fun z => z hYc)
 have T5 := Lib.hid (T4.out.step (t5.mono fun i _ hi hx => hi (HYX.out i hx)))
 have HRK := Lib.hid (show RowP u1 (fun i => Z i ∧ ¬ X i) K (intsV Q.ch) from rK.wide fun i hi => ⟨hi.1, fun z => hi.2 (HYX.out i z)⟩)
 have HCK := Lib.hid hck
 have HRL := Lib.hid rL
 have HRI := Lib.hid rI
 have HPS := Lib.hid hps
 have H5 := Lib.hid h5
 have HZX := Lib.hid (show ∀ i, X i → Z i from fun i hi => hZ i (HYX.out i hi))
 have HPL := Lib.hid (show Q.ch.length = ps.length by have := congrArg List.length hps; rw [firstc_len] at this; simpa [cellsP] using this.symm)
 have HWE := Lib.hid (wee_any u1 L Q.ch.length cl ps HPL.out (by rw [← HPL.out]; exact hcl) (by rw [← HPL.out]; omega) rL.row)
 clear h5 hZ rK hck rL rI hps t5 y4 z4
 go_simp
 refine hK _ _ ?_
 clear hK KK hcl
 refine Reg.take_at (i := 6) (d := 25) (v := ?_) rfl rfl (by kernel_rfl) (by kernel_rfl) (by kernel_rfl) (fun _ _ _ h => h) (Or.inl ⟨by rfl, ?_⟩) ?_
 rotate_left 1
 ·intro w; go_simp <;> with_reducible rfl
 simp only [Act.put, List.setIfInBounds_toArray, List.set_cons_zero, List.set_cons_succ]
 refine Reg.take_at (i := 7) (d := 32) (v := ?_) rfl rfl (by kernel_rfl) (by kernel_rfl) (by kernel_rfl) (fun _ _ _ h => h) (Or.inl ⟨by rfl, ?_⟩) ?_
 rotate_left 1
 ·intro w; go_simp <;> with_reducible rfl
 simp only [Act.put, List.setIfInBounds_toArray, List.set_cons_zero, List.set_cons_succ]
 refine Reg.take_at (i := 8) (d := 33) (v := ?_) rfl rfl (by kernel_rfl) (by kernel_rfl) (by kernel_rfl) (fun _ _ _ h => h) (Or.inl ⟨by rfl, ?_⟩) ?_
 rotate_left 1
 ·intro w; go_simp <;> with_reducible rfl
 simp only [Act.put, List.setIfInBounds_toArray, List.set_cons_zero, List.set_cons_succ]
 refine Reg.take_at (i := 9) (d := 34) (v := ?_) rfl rfl (by kernel_rfl) (by kernel_rfl) (by kernel_rfl) (fun _ _ _ h => h) (Or.inl ⟨by rfl, ?_⟩) ?_
 rotate_left 1
 ·intro w; go_simp <;> with_reducible rfl
 simp only [Act.put, List.setIfInBounds_toArray, List.set_cons_zero, List.set_cons_succ]
 refine Reg.take_at (i := 10) (d := 5) (v := ?_) rfl rfl (by kernel_rfl) (by kernel_rfl) (by kernel_rfl) (fun _ _ _ h => h) (Or.inl ⟨by rfl, ?_⟩) ?_
 rotate_left 1
 ·intro w; go_simp <;> with_reducible rfl
 simp only [Act.put, List.setIfInBounds_toArray, List.set_cons_zero, List.set_cons_succ]
 refine Reg.take_at (i := 11) (d := 6) (v := ?_) rfl rfl (by kernel_rfl) (by kernel_rfl) (by kernel_rfl) (fun _ _ _ h => h) (Or.inl ⟨by rfl, ?_⟩) ?_
 rotate_left 1
 ·intro w; go_simp <;> with_reducible rfl
 simp only [Act.put, List.setIfInBounds_toArray, List.set_cons_zero, List.set_cons_succ]
 refine Reg.take_at (i := 12) (d := 7) (v := ?_) rfl rfl (by kernel_rfl) (by kernel_rfl) (by kernel_rfl) (fun _ _ _ h => h) (Or.inl ⟨by rfl, ?_⟩) ?_
 rotate_left 1
 ·intro w; go_simp <;> with_reducible rfl
 simp only [Act.put, List.setIfInBounds_toArray, List.set_cons_zero, List.set_cons_succ]
 refine wpAny_done (by kernel_rfl) ?_ _
 go_wp2_with fail
 (with_reducible refine (HWE.out).mono ?_)
 rintro e u2 ⟨j, hj, rfl, rfl⟩
 obtain ⟨hl1, hl2⟩ := last_of HPS.out hQ.out.2.2.2.1
 obtain rfl := last_one hj hl1
 skip
 have hof := FreeOf.of_any u1 L ((Q.tf.length + 22) / 23) cl (ps.take ((Q.tf.length + 22) / 23)) (by rw [List.length_take]; have := hl1.1; omega) (by rw [List.map_take]; exact (HRL.out.row).take _) (fun q hq => (HRI.out q (List.mem_of_mem_take hq)).row) (by rw [List.length_take]; omega) (fun q hq => by
  have hq2 := List.mem_of_mem_take hq
  have h5 : q.2.2 ∈ cellsP ps := List.mem_map.2 ⟨q, hq2, rfl⟩
  rw [HPS.out] at h5
  obtain ⟨i, _, hi5⟩ := List.mem_map.1 h5
  have := cellsAt_len Q.tf i
  rw [hi5] at this
  omega)
 unfold FreeOf.OfPost at hof
 rw [hl2] at hof
 have hpg := FreeCells.chunks_pages (l := Q.tf) rfl
 have HPG := Lib.hid hpg
 clear hl1 hl2 hj hpg
 generalize hjj : (Q.tf.length + 22) / 23 = j at *
 clear hjj
 go_wp2_with fail
 (with_reducible refine hof.mono ?_)
 clear hof
 rintro e u3 ⟨b3, hres⟩
 rcases hres with ⟨A3, m3, c3, l3, rfl, hm3, how, hg3, hp3⟩ | ⟨_, hno⟩
 rotate_left
 ·exact absurd HPG.out (hno _ hQ.out.2.2.2.2.1)
 obtain rfl := of_pages hp3 HPG.out hg3 hQ.out.2.2.2.2.1
 subst hm3
 have h6 := H5.out.below b3
 have y6 := y5.same (b3.block _ y5.lt)
 have z6 : SuperSpec.Bs u3 bz Q.x := At.same z5 (b3.block _ (At.lt z5))
 have rl6 : RowP u3 (fun i => u1.heap.size ≤ i) A3 (fr Q.tf) := ownF_rowP how
 have hc3 := how.cap.1
 have y60 : u3.cell? ⟨bx, 0, none⟩ = some (.pointer (some ⟨p, 0, none⟩)) := by rw [y6.cell]; rfl
 have hcon := contains_any u3 A3 Q.tf.length c3 Q.tf bx p Q.x.pages rfl how.row (by omega) y60 (pgc h6.st).1.2.2 y6.lt h6.st.lt hQ.out.2.2.2.2.2
 unfold clp at hcon
 have RK6 := Lib.hid (HRK.out.below b3)
 have T6 := Lib.hid (T5.out.step (Turn.ofBelow b3))
 have RL6 := Lib.hid rl6
 have HC3 := Lib.hid hc3
 have HB3 := Lib.hid b3.size
 have HN6 := Lib.hid (H5.out.newRow rl6)
 clear b3 how hg3 hp3 rl6 hc3 y60
 go_wp2_with fail
 (with_reducible refine hcon.mono ?_)
 clear hcon
 rintro e u4 ⟨rfl, b4⟩
 have h7 := h6.below b4
 have y7 := y6.same (b4.block _ y6.lt)
 have z7 : SuperSpec.Bs u4 bz Q.x := At.same z6 (b4.block _ (At.lt z6))
 obtain ⟨x0, x1, x2, x3⟩ := sup_cells z7
 have y70 : u4.cell? ⟨bx, 0, none⟩ = some (.pointer (some ⟨p, 0, none⟩)) := by rw [y7.cell]; rfl
 have hcx := h7.less (Y := X) HZX.out
 have hke := keep_any hcx Q.x (ch := Q.ch) (l := Q.tf) HCK.out HC3.out ((h7.lessRow ((RK6.out.below b4).wide fun i hi => hi))) ((HN6.out.below b4).wide fun i hi => ⟨fun z => hi.1 (HZX.out i z), hi.2⟩)
 have T7 := Lib.hid (T6.out.step (Turn.ofBelow b4))
 clear h6 h7 y6 z6 b4 hcx
 go_wp2_with fail
 (with_reducible refine hke.mono ?_)
 clear hke x0 x1 x2 x3 y70
 rintro e u5 ⟨rfl, h8, t8⟩
 have H8 := Lib.hid h8
 have T8 := Lib.hid (T7.out.step t8)
 clear h8 t8
 go_wp2_with fail
 go_ret
 exact ⟨rfl, ⟨_, _, _, _, _, _, _, _, H8.out.as rfl rfl rfl rfl rfl rfl rfl⟩, T8.out⟩
end
end Go.Proofs.YtpidnkfcccboaaaGreat.PagerCode
namespace Go.Proofs.YtpidnkfcccboaaaGreat.PagerCode
open Go.RowKit Base PagePlain PageSmall FreePlain FreeMem SuperPlain SuperRefCheck PagerPlain PagerTold PagerNum PagerSpec SumOf DiskPlain DiskMem DiskSmall PagerMem PagerDisk Go.Maps
open SumFill (Ready)

/-- a pager that nothing is read of yet -/
def blank (most len : Int) (rd : Int → By) : PS := ⟨most, len, rd, ⟨0, 0, 0, 0⟩, [], [], [], 0, 0, []⟩
section
variable {W w w' : World} {p d g mp : Nat} {S : DS} {P P' Q : PS} {X Y G : Blks} {m m' : Int} {nn : Nat} {FD : Blks} {A B C : Option Addr} {a b c : Nat}
theorem start_cr {w1 : World} (hd : Dk W d S FD) (hF : ∀ i, FD i → i < W.heap.size ∧ ¬ X i) (hX : ∀ i, X i → i < W.heap.size) (hb : Below W.heap.size W w1) (hg0 : W.heap.size ≤ g) (hg1 : g < w1.heap.size) (hr : Ready w1 g 0) (hm : 0 ≤ m) (hl : (S.loose.length : Int) * 1000 ≤ m) (most len : Int) (rd : Int → By) :
  Cr ((w1.alloc (.map #[] 0)).alloc (.cells #[.pointer (some ⟨d, 0, none⟩), .pointer (some ⟨g, 0, none⟩), .int .i64 0, .int .i64 0, .int .i64 0, .int .i64 0, .int .i64 0, .slice none 0 0, .slice none 0 0, .slice none 0 0, .map (some w1.heap.size), .int .i64 0] 59)) (w1.heap.size + 1) d g w1.heap.size S (blank most len rd) X m 0 FD none none none 0 0 0 ∧
  Turn (Not X) W ((w1.alloc (.map #[] 0)).alloc (.cells #[.pointer (some ⟨d, 0, none⟩), .pointer (some ⟨g, 0, none⟩), .int .i64 0, .int .i64 0, .int .i64 0, .int .i64 0, .int .i64 0, .slice none 0 0, .slice none 0 0, .slice none 0 0, .map (some w1.heap.size), .int .i64 0] 59)) := by
 have hs := hb.size
 have b2 : Below w1.heap.size w1 (w1.alloc (.map #[] 0)) := al_ _ _
 have b3 : Below (w1.alloc (.map #[] 0)).heap.size (w1.alloc (.map #[] 0)) ((w1.alloc (.map #[] 0)).alloc (.cells #[.pointer (some ⟨d, 0, none⟩), .pointer (some ⟨g, 0, none⟩), .int .i64 0, .int .i64 0, .int .i64 0, .int .i64 0, .int .i64 0, .slice none 0 0, .slice none 0 0, .slice none 0 0, .map (some w1.heap.size), .int .i64 0] 59)) := al_ _ _
 have b23 := Below.step b2 b3
 have hall := Below.step hb b23
 have hmap : SetW (w1.alloc (.map #[] 0)) w1.heap.size 0 [] := ⟨.map [], World.ownsMap_made w1 _ _ _, fun z => by simp [has]⟩
 have hsz : (w1.alloc (.map #[] 0)).heap.size = w1.heap.size + 1 := by simp
 refine ⟨⟨?_, hd.below hall, ⟨0, Int.le_refl _, hm, ready_same hr (b23.block _ hg1)⟩, hl, hmap.same (b3.block _ (by omega)), by simpa using hm, Nat.le_refl _, Nat.le_refl _, Nat.le_refl _, RowP.nil, RowP.nil, RowP.nil, fun i hi => ?_, ?_, ?_, ?_, by omega, by omega, by omega, fun i hi => Nat.lt_of_lt_of_le (hX i hi) hall.size⟩, Turn.ofBelow hall⟩
 ·rw [← hsz]
  exact heap_alloc_new (w1.alloc (.map #[] 0)) _
 ·have := hF i hi
  exact ⟨Nat.lt_of_lt_of_le this.1 hall.size, this.2, by omega, by omega, by omega⟩
 ·intro z; have := hX _ z; omega
 ·intro z; have := hX _ z; omega
 ·intro z; have := hX _ z; omega
/-- the disk that was made anew is the fresh pager's -/
theorem fresh_agree {most : Int} (h1 : 2 ≤ most) (h2 : most ≤ 4096) : Agree (fresh2 ((DiskPlain.new most).grown 2)) (freshP most) ∧ (fresh2 ((DiskPlain.new most).grown 2)).loose = [] := by
 have hok : (DiskPlain.new most).Ok := new_ok (by omega) h2
 have a0 : Agree (DiskPlain.new most) (blank most 0 fun _ => zs) := ⟨rfl, rfl, Int.le_refl _, Int.le_refl _, fun q hq => absurd hq (Nat.not_lt_zero q), fun _ _ => rfl⟩
 have a1 := a0.grow hok (Q := { blank most 0 (fun _ => zs) with pg := 2, len := 2 }) (show (2 : Int) ≤ most from h1) rfl rfl rfl
 rw [show (DiskPlain.new most).grow 2 = (DiskPlain.new most).grown 2 from (grow_live rfl h1).2] at a1
 have hl : ((DiskPlain.new most).grown 2).last.length = 2 := by simp [DS.grown, DiskPlain.new]
 have a2 := a1.2.1.write (Q := { blank most 2 (fun q => if q = 0 then sbytes S0 else zs) with pg := 2 }) (no := 0) (b := sbytes S0) (sbytes_len S0) (by omega) (by rw [hl]; decide) rfl rfl rfl rfl
 have a3 := a2.2.1.write (Q := { blank most 2 (fun q => if q = 1 then sbytes S1 else if q = 0 then sbytes S0 else zs) with pg := 2 }) (no := 1) (b := sbytes S1) (sbytes_len S1) (by omega) (by rw [a2.2.2.2, hl]; decide) rfl rfl rfl rfl
 have a4 := a3.2.1.sync
 refine ⟨a4.1.of rfl rfl rfl (funext fun q => ?_), a4.2.1⟩
 show (if q = 0 then sbytes S0 else if q = 1 then sbytes S1 else zs) = if q = 1 then sbytes S1 else if q = 0 then sbytes S0 else zs
 by_cases q0 : q = 0
 ·subst q0; rfl
 ·rw [if_neg q0]
  by_cases q1 : q = 1
  ·rw [if_pos q1, if_pos q1]
  ·rw [if_neg q1, if_neg q1, if_neg q0]
set_option maxRecDepth 100000 in
set_option maxHeartbeats 12800000 in
theorem open_new (hd : Dk W d S FD) (hF : ∀ i, FD i → i < W.heap.size ∧ ¬ X i) (hX : ∀ i, X i → i < W.heap.size) {most : Int} (h1 : 2 ≤ most) (h2 : most ≤ 300) (hS : S = DiskPlain.new most) : Calls Tryz.prog 14 #[.pointer (some ⟨d, 0, none⟩)] W fun e w' =>
  ∃ p g mp S', e = .returned (.tuple #[.pointer (some ⟨p, 0, none⟩), .int .i64 0]) ∧ Cw w' p d g mp S' (freshP most) X 1000000 ∧ Agree S' (freshP most) ∧ Turn (Not X) W w' ∧ W.heap.size ≤ p := by
 subst hS
 have hdead := dead_dk hd
 rw [show (DiskPlain.new most).dead = false from rfl] at hdead
 have HST := Lib.hid (fun (w1 : World) (g : Nat) (hb : Below W.heap.size W w1) (hg0 : W.heap.size ≤ g) (hg1 : g < w1.heap.size) (hr : Ready w1 g 0) => start_cr hd hF hX hb hg0 hg1 hr (show (0 : Int) ≤ 1000 by omega) (show ((DiskPlain.new most).loose.length : Int) * 1000 ≤ 1000 by show ((0 : Nat) : Int) * 1000 ≤ 1000; omega) most 2 (freshP most).rd)
 have HAG := Lib.hid (fresh_agree h1 (by omega))
 have HM := Lib.hid (And.intro h1 h2)
 clear hd hF hX
 have hnew := SumOf.new_g W
 have hmm := @run_makeMap Tryz.prog
 go_enter Tryz.func14, Tryz.ntmps14
 go_wp2_with fail
 (with_reducible refine hdead.mono ?_)
 clear hdead
 rintro e w0 ⟨rfl, rfl⟩
 go_wp2_with fail
 (with_reducible refine hnew.mono ?_)
 clear hnew
 rintro e w1 ⟨g, rfl, hg0, hg1, hr, hb⟩
 obtain ⟨h3, t3⟩ := HST.out w1 g hb hg0 hg1 hr
 obtain ⟨w3, hw3⟩ : ∃ v, v = (w1.alloc (.map #[] 0)).alloc (.cells #[.pointer (some ⟨d, 0, none⟩), .pointer (some ⟨g, 0, none⟩), .int .i64 0, .int .i64 0, .int .i64 0, .int .i64 0, .int .i64 0, .slice none 0 0, .slice none 0 0, .slice none 0 0, .map (some w1.heap.size), .int .i64 0] 59) := ⟨_, rfl⟩
 rw [← hw3] at h3 t3
 have HPW := Lib.hid (show W.heap.size ≤ w1.heap.size + 1 by have := hb.size; omega)
 have hcall := find_new h3 (by omega) rfl rfl HM.out.1
 have T3 := Lib.hid t3
 have HW3 := Lib.hid hw3
 clear HST hb hg0 hg1 hr t3 hw3 h3
 generalize hpp : w1.heap.size + 1 = p at *
 generalize hmp : w1.heap.size = mp at *
 go_upto_region 4 with fail
 try rw [show _ = w3 from HW3.out.symm]
 try rw [← HW3.out]
 try rw [← HW3.out]
 try rw [hpp]
 clear hpp hmp HW3
 go_wp2_with fail
 (with_reducible refine hcall.mono ?_)
 clear hcall
 rintro e w4 ⟨rfl, ⟨F4, h4⟩, t4⟩
 obtain ⟨w5, hw5⟩ : ∃ v, v = w4.alloc (.cells #[.int .i64 S1.ep, .int .i64 S1.root, .int .i64 S1.free, .int .i64 S1.pages] 29) := ⟨_, rfl⟩
 have b5 : Below w4.heap.size w4 w5 := by rw [hw5]; exact al_ _ _
 have z5 : SuperSpec.Bs w5 w4.heap.size S1 := by rw [hw5]; exact SuperSpec.bs_new w4 S1
 have h5 := h4.below b5
 have T5 := Lib.hid ((T3.out.step t4).step (Turn.ofBelow b5))
 have hcall := recall_any h5 (by omega) HAG.out.1 (inv_fresh HM.out.1 (by have := HM.out.2; omega)) (told_fresh most) HM.out.2 (show (1 : Int) ≤ 4000000000 by omega) rfl rfl rfl
 obtain ⟨a0, a1, a2, a3⟩ := sup_cells z5
 have HW5 := Lib.hid hw5
 clear h4 h5 t4 b5 z5 hw5
 generalize hbz : w4.heap.size = bz at a0 a1 a2 a3
 have a0 : w5.cell? ⟨bz, 0, none⟩ = some (.int .i64 S1.ep) := a0
 have a1 : w5.cell? ⟨bz, 1, none⟩ = some (.int .i64 S1.root) := a1
 have a2 : w5.cell? ⟨bz, 2, none⟩ = some (.int .i64 S1.free) := a2
 have a3 : w5.cell? ⟨bz, 3, none⟩ = some (.int .i64 S1.pages) := a3
 have hcall : Calls Tryz.prog 43 #[.pointer (some ⟨p, 0, none⟩), .agg #[.int .i64 S1.ep, .int .i64 S1.root, .int .i64 S1.free, .int .i64 S1.pages]] w5 _ := hcall
 go_upto_region 7 with fail
 rw [← HW5.out]
 try rw [hbz]
 clear hbz HW5
 go_wp2_with fail
 (with_reducible refine hcall.mono ?_)
 clear hcall a0 a1 a2 a3
 rintro e w6 ⟨rfl, ⟨n7, F7, A7, B7, C7, a7, b7, c7, h7⟩, t7⟩
 have H7 := Lib.hid h7
 have T7 := Lib.hid (T5.out.step t7)
 clear h7 t7
 go_wp2_with fail
 go_ret2
 exact ⟨_, _, _, _, rfl, ⟨_, _, _, _, _, _, _, _, (H7.out.as rfl rfl rfl rfl rfl rfl rfl).up (by omega)⟩, HAG.out.1, T7.out, HPW.out⟩
set_option maxRecDepth 100000 in
set_option maxHeartbeats 12800000 in
theorem open_old (hd : Dk W d S FD) (hF : ∀ i, FD i → i < W.heap.size ∧ ¬ X i) (hX : ∀ i, X i → i < W.heap.size) (ha : Agree S Q) (hi : Inv Q) (ht : PagerTold.Told Q) (hq : Q.most ≤ 300) (he : Q.x.ep ≤ 4000000000) (hm : 0 ≤ m) (hl : (S.loose.length : Int) * 1000 ≤ m) (hmm : m ≤ 740000000) : Calls Tryz.prog 14 #[.pointer (some ⟨d, 0, none⟩)] W fun e w' =>
  ∃ p g mp, e = .returned (.tuple #[.pointer (some ⟨p, 0, none⟩), .int .i64 0]) ∧ Cw w' p d g mp S { Q.abort with od := Q.x.ep } X (m + 1000000) ∧ Turn (Not X) W w' ∧ W.heap.size ≤ p := by
 have hdead := dead_dk hd
 rw [dead_no ha.live] at hdead
 have HST := Lib.hid (fun (w1 : World) (g : Nat) (hb : Below W.heap.size W w1) (hg0 : W.heap.size ≤ g) (hg1 : g < w1.heap.size) (hr : Ready w1 g 0) => start_cr hd hF hX hb hg0 hg1 hr hm hl Q.most Q.len Q.rd)
 have HAG := Lib.hid (And.intro ha (And.intro hi (And.intro ht (And.intro hq he))))
 have HM := Lib.hid hmm
 clear hd hF hX ha hi ht hq he hl
 have hnew := SumOf.new_g W
 have hmm := @run_makeMap Tryz.prog
 go_enter Tryz.func14, Tryz.ntmps14
 go_wp2_with fail
 (with_reducible refine hdead.mono ?_)
 clear hdead
 rintro e w0 ⟨rfl, rfl⟩
 go_wp2_with fail
 (with_reducible refine hnew.mono ?_)
 clear hnew
 rintro e w1 ⟨g, rfl, hg0, hg1, hr, hb⟩
 obtain ⟨h3, t3⟩ := HST.out w1 g hb hg0 hg1 hr
 obtain ⟨w3, hw3⟩ : ∃ v, v = (w1.alloc (.map #[] 0)).alloc (.cells #[.pointer (some ⟨d, 0, none⟩), .pointer (some ⟨g, 0, none⟩), .int .i64 0, .int .i64 0, .int .i64 0, .int .i64 0, .int .i64 0, .slice none 0 0, .slice none 0 0, .slice none 0 0, .map (some w1.heap.size), .int .i64 0] 59) := ⟨_, rfl⟩
 rw [← hw3] at h3 t3
 have HPW := Lib.hid (show W.heap.size ≤ w1.heap.size + 1 by have := hb.size; omega)
 have hcall := find_old h3 (by omega) HAG.out.1 HAG.out.2.1 HAG.out.2.2.1
 have T3 := Lib.hid t3
 have HW3 := Lib.hid hw3
 clear HST hb hg0 hg1 hr t3 hw3 h3
 generalize hpp : w1.heap.size + 1 = p at *
 generalize hmp : w1.heap.size = mp at *
 go_upto_region 4 with fail
 try rw [show _ = w3 from HW3.out.symm]
 try rw [← HW3.out]
 try rw [← HW3.out]
 try rw [hpp]
 clear hpp hmp HW3
 go_wp2_with fail
 (with_reducible refine hcall.mono ?_)
 clear hcall
 rintro e w4 ⟨rfl, h4, t4⟩
 obtain ⟨w5, hw5⟩ : ∃ v, v = w4.alloc (.cells #[.int .i64 Q.x.ep, .int .i64 Q.x.root, .int .i64 Q.x.free, .int .i64 Q.x.pages] 29) := ⟨_, rfl⟩
 have b5 : Below w4.heap.size w4 w5 := by rw [hw5]; exact al_ _ _
 have z5 : SuperSpec.Bs w5 w4.heap.size Q.x := by rw [hw5]; exact SuperSpec.bs_new w4 Q.x
 have h5 := h4.below b5
 have T5 := Lib.hid ((T3.out.step t4).step (Turn.ofBelow b5))
 have hcall := recall_any h5 (by omega) HAG.out.1 HAG.out.2.1 HAG.out.2.2.1 HAG.out.2.2.2.1 HAG.out.2.2.2.2 rfl rfl rfl
 obtain ⟨a0, a1, a2, a3⟩ := sup_cells z5
 have HW5 := Lib.hid hw5
 clear h4 h5 t4 b5 z5 hw5
 generalize hbz : w4.heap.size = bz at a0 a1 a2 a3
 go_upto_region 7 with fail
 try rw [← HW5.out]
 try rw [hbz]
 clear hbz HW5
 go_wp2_with fail
 (with_reducible refine hcall.mono ?_)
 clear hcall a0 a1 a2 a3
 rintro e w6 ⟨rfl, ⟨n7, F7, A7, B7, C7, a7, b7, c7, h7⟩, t7⟩
 have H7 := Lib.hid h7
 have T7 := Lib.hid (T5.out.step t7)
 clear h7 t7
 go_wp2_with fail
 go_ret2
 exact ⟨_, _, _, rfl, ⟨_, _, _, _, _, _, _, _, (H7.out.as rfl rfl rfl rfl rfl rfl rfl).up (by omega)⟩, T7.out, HPW.out⟩
end
end Go.Proofs.YtpidnkfcccboaaaGreat.PagerCode
