/- PagerWrite, PagerNew, PagerChange. -/
import Derived.Test.YtpidnkfcccboaaaGreatKPagerCode2
namespace Go.Proofs.YtpidnkfcccboaaaGreat.PagerCode
open Go.RowKit Base PagePlain PageSmall FreePlain FreeMem SuperPlain SuperRefCheck PagerPlain PagerTold PagerNum PagerSpec SumOf DiskPlain DiskMem DiskSmall PagerMem Go.Maps

theorem _root_.Go.Proofs.YtpidnkfcccboaaaGreat.DiskMem.Went.turn_ {F : Nat → Prop} {g : Nat} {w w' : World} {S : DS} (h : Went F g w S w') : Turn F w w' := by
 obtain ⟨_, _, _, h⟩ := h
 exact h
section
variable {W w w' : World} {p d g mp : Nat} {S : DS} {P P' : PS} {X Y G : Blks} {m m' : Int} {nn : Nat} {FD : Blks} {A B C : Option Addr} {a b c : Nat}
set_option maxRecDepth 100000 in
set_option maxHeartbeats 6400000 in
theorem write_bad (h : Cr W p d g mp S P X m nn FD A B C a b c) (h0 : 0 ≤ P.x.ep) (h1 : P.x.ep ≤ 4294967295) (hm : m ≤ 800000000) (no pages kind link : Int) (K : Option Addr) (ck : Nat) (cells : List ByteArray) (hfc : cells.length ≤ 1000 ∧ ∀ q ∈ cells, q.size ≤ 1000) (hr : RowP W X K (strs cells)) (he : err (P.of kind link cells no) ≠ 0) :
  Calls Tryz.prog 50 #[.pointer (some ⟨p, 0, none⟩), .int .i64 no, .int .i64 pages, .int .i64 kind, .int .i64 link, .slice K cells.length ck] W fun e w' => e = .returned (.int .i64 (err (P.of kind link cells no))) ∧ Cr w' p d g mp S P X (m + 1000) nn FD A B C a b c ∧ Turn (Not X) W w' := by
 have HE := Lib.hid he
 clear he
 go_enter Tryz.func50, Tryz.ntmps50
 go_upto_region 1 with fail
 refine wp_region_any (by kernel_rfl) ?_
 change wpAny _ _ _ _ _ _ _ (World.drew _)
 generalize hu0 : World.drew W = u0
 have hC0 : Cr u0 p d g mp S P X m nn FD A B C a b c := by rw [← hu0]; exact h.below (Below.refl _ _).drew
 have T0 := Lib.hid (show Turn (Not X) W u0 by rw [← hu0]; exact Turn.ofBelow (Below.refl _ _).drew)
 have hrk : RowP u0 X K (strs cells) := by rw [← hu0]; exact hr.below (Below.refl _ _).drew
 have HRX := Lib.hid (hC0.rowX hrk)
 clear h hr hrk hu0
 obtain ⟨⟨_, c1, _⟩, ⟨c3, _⟩, _⟩ := pgc hC0.st
 obtain ⟨nq, hq0, hq1, hqr⟩ := hC0.su
 have HQ := Lib.hid (And.intro hq0 (And.intro hq1 hqr))
 clear hq0 hq1 hqr
 have HC := Lib.hid hC0
 clear hC0
 refine Reg.take_at (i := 0) (d := 17) (v := ?_) rfl rfl (by kernel_rfl) (by kernel_rfl) (by kernel_rfl) (fun _ _ _ h => h) (Or.inl ⟨by rfl, ?_⟩) ?_
 rotate_left 1
 ·intro w; go_simp <;> with_reducible rfl
 simp only [Act.put, List.setIfInBounds_toArray, List.set_cons_zero, List.set_cons_succ]
 refine Reg.take_at (i := 1) (d := 18) (v := ?_) rfl rfl (by kernel_rfl) (by kernel_rfl) (by kernel_rfl) (fun _ _ _ h => h) (Or.inl ⟨by rfl, ?_⟩) ?_
 rotate_left 1
 ·intro w; go_simp <;> with_reducible rfl
 simp only [Act.put, List.setIfInBounds_toArray, List.set_cons_zero, List.set_cons_succ]
 refine Reg.take_at (i := 2) (d := 19) (v := ?_) rfl rfl (by kernel_rfl) (by kernel_rfl) (by kernel_rfl) (fun _ _ _ h => h) (Or.inl ⟨by rfl, ?_⟩) ?_
 rotate_left 1
 ·intro w; go_simp <;> with_reducible rfl
 simp only [Act.put, List.setIfInBounds_toArray, List.set_cons_zero, List.set_cons_succ]
 refine Reg.take_at (i := 3) (d := 20) (v := ?_) rfl rfl (by kernel_rfl) (by kernel_rfl) (by kernel_rfl) (fun _ _ _ h => h) (Or.inl ⟨by rfl, ?_⟩) ?_
 rotate_left 1
 ·intro w; go_simp <;> with_reducible rfl
 simp only [Act.put, List.setIfInBounds_toArray, List.set_cons_zero, List.set_cons_succ]
 refine Reg.take_at (i := 5) (d := 22) (v := ?_) rfl rfl (by kernel_rfl) (by kernel_rfl) (by kernel_rfl) (fun _ _ _ h => h) (Or.inl ⟨by rfl, ?_⟩) ?_
 rotate_left 1
 ·intro w; go_simp <;> with_reducible rfl
 simp only [Act.put, List.setIfInBounds_toArray, List.set_cons_zero, List.set_cons_succ]
 refine Reg.take_at (i := 6) (d := 23) (v := ?_) rfl rfl (by kernel_rfl) (by kernel_rfl) (by kernel_rfl) (fun _ _ _ h => h) (Or.inl ⟨by rfl, ?_⟩) ?_
 rotate_left 1
 ·intro w; go_simp <;> with_reducible rfl
 simp only [Act.put, List.setIfInBounds_toArray, List.set_cons_zero, List.set_cons_succ]
 refine Reg.take_at (i := 7) (d := 24) (v := ?_) rfl rfl (by kernel_rfl) (by kernel_rfl) (by kernel_rfl) (fun _ _ _ h => h) (Or.inl ⟨by rfl, ?_⟩) ?_
 rotate_left 1
 ·intro w; go_simp <;> with_reducible rfl
 simp only [Act.put, List.setIfInBounds_toArray, List.set_cons_zero, List.set_cons_succ]
 refine Reg.take_at (i := 9) (d := 26) (v := ?_) rfl rfl (by kernel_rfl) (by kernel_rfl) (by kernel_rfl) (fun _ _ _ h => h) (Or.inl ⟨by rfl, ?_⟩) ?_
 rotate_left 1
 ·intro w; go_simp <;> with_reducible rfl
 simp only [Act.put, List.setIfInBounds_toArray, List.set_cons_zero, List.set_cons_succ]
 refine Reg.take_at (i := 10) (d := 27) (v := ?_) rfl rfl (by kernel_rfl) (by kernel_rfl) (by kernel_rfl) (fun _ _ _ h => h) (Or.inl ⟨by rfl, ?_⟩) ?_
 rotate_left 1
 ·intro w; go_simp <;> with_reducible rfl
 simp only [Act.put, List.setIfInBounds_toArray, List.set_cons_zero, List.set_cons_succ]
 refine wpAny_ready (rs := [4, 8]) (by decide +kernel) (by simp) ?_
 refine AllReady.cons rfl (fun KK hK => ?_) ?_
 ·go_simp
  refine hK _ _ ?_
  clear hK KK
  refine wpAny_ready (rs := [8]) (by decide +kernel) (by simp) ?_
  refine AllReady.cons rfl (fun KK hK => ?_) AllReady.nil
  go_simp
  refine (epoch_any u0 p P.x.ep c3 h0 h1).mono ?_
  rintro e u9 ⟨rfl, rfl⟩
  go_simp
  refine hK _ _ ?_
  clear hK KK
  refine Reg.take_at (i := 11) (d := 28) (v := ?_) rfl rfl (by kernel_rfl) (by kernel_rfl) (by kernel_rfl) (fun _ _ _ h => h) (Or.inl ⟨by rfl, ?_⟩) ?_
  rotate_left 1
  ·intro w; go_simp <;> with_reducible rfl
  simp only [Act.put, List.setIfInBounds_toArray, List.set_cons_zero, List.set_cons_succ]
  refine wpAny_ready (rs := [12]) (by decide +kernel) (by simp) ?_
  refine AllReady.cons rfl (fun KK hK => ?_) AllReady.nil
  go_simp
  refine (PagePut.put_any g nq u0 (P.of kind link cells no) K ck HQ.out.2.2 HQ.out.1 (by have := HQ.out.2.1; omega) HRX.out hfc.1 hfc.2).mono ?_
  rintro e u1 ⟨_, hg⟩
  obtain ⟨rfl, hr1, ho1⟩ := hg HE.out
  go_simp
  refine hK _ _ ?_
  clear hK KK
  refine Reg.take_at (i := 13) (d := 16) (v := ?_) rfl rfl (by kernel_rfl) (by kernel_rfl) (by kernel_rfl) (fun _ _ _ h => h) (Or.inl ⟨by rfl, ?_⟩) ?_
  rotate_left 1
  ·intro w; go_simp <;> with_reducible rfl
  simp only [Act.put, List.setIfInBounds_toArray, List.set_cons_zero, List.set_cons_succ]
  refine Reg.take_at (i := 14) (d := 30) (v := ?_) rfl rfl (by kernel_rfl) (by kernel_rfl) (by kernel_rfl) (fun _ _ _ h => h) (Or.inl ⟨by rfl, ?_⟩) ?_
  rotate_left 1
  ·intro w; go_simp <;> with_reducible rfl
  simp only [Act.put, List.setIfInBounds_toArray, List.set_cons_zero, List.set_cons_succ]
  refine Reg.take_at (i := 15) (d := 31) (v := ?_) rfl rfl (by kernel_rfl) (by kernel_rfl) (by kernel_rfl) (fun _ _ _ h => h) (Or.inl ⟨by rfl, ?_⟩) ?_
  rotate_left 1
  ·intro w; go_simp <;> with_reducible rfl
  simp only [Act.put, List.setIfInBounds_toArray, List.set_cons_zero, List.set_cons_succ]
  refine Reg.take_at (i := 16) (d := 13) (v := ?_) rfl rfl (by kernel_rfl) (by kernel_rfl) (by kernel_rfl) (fun _ _ _ h => h) (Or.inl ⟨by rfl, ?_⟩) ?_
  rotate_left 1
  ·intro w; go_simp <;> with_reducible rfl
  simp only [Act.put, List.setIfInBounds_toArray, List.set_cons_zero, List.set_cons_succ]
  refine Reg.take_at (i := 17) (d := 14) (v := ?_) rfl rfl (by kernel_rfl) (by kernel_rfl) (by kernel_rfl) (fun _ _ _ h => h) (Or.inl ⟨by rfl, ?_⟩) ?_
  rotate_left 1
  ·intro w; go_simp <;> with_reducible rfl
  simp only [Act.put, List.setIfInBounds_toArray, List.set_cons_zero, List.set_cons_succ]
  refine wpAny_done (by kernel_rfl) ?_ _
  clear c1 c3
  have hs := HC.out.sums (m' := m + 1000) ho1 hr1 HQ.out.1 (by have := HQ.out.2.1; omega) (by omega)
  have HN := Lib.hid hs.1
  have HT := Lib.hid (T0.out.step hs.2)
  clear hs hr1 ho1
  have hne : (err (P.of kind link cells no) == 0) = false := by simpa using HE.out
  have hne2 : (err (P.of kind link cells no) != 0) = true := by simpa using HE.out
  generalize her : err (P.of kind link cells no) = er at *
  have HER := Lib.hid her
  clear her
  go_wp2_with fail
  go_ret
  exact ⟨congrArg (fun z => Ending.returned (.int .i64 z)) HER.out.symm, HN.out, HT.out⟩
 refine AllReady.cons rfl (fun KK hK => ?_) AllReady.nil
 go_simp
 refine (epoch_any u0 p P.x.ep c3 h0 h1).mono ?_
 rintro e u9 ⟨rfl, rfl⟩
 go_simp
 refine hK _ _ ?_
 clear hK KK
 refine Reg.take_at (i := 11) (d := 28) (v := ?_) rfl rfl (by kernel_rfl) (by kernel_rfl) (by kernel_rfl) (fun _ _ _ h => h) (Or.inl ⟨by rfl, ?_⟩) ?_
 rotate_left 1
 ·intro w; go_simp <;> with_reducible rfl
 simp only [Act.put, List.setIfInBounds_toArray, List.set_cons_zero, List.set_cons_succ]
 refine wpAny_ready (rs := [4]) (by decide +kernel) (by simp) ?_
 refine AllReady.cons rfl (fun KK hK => ?_) AllReady.nil
 go_simp
 refine hK _ _ ?_
 clear hK KK
 refine wpAny_ready (rs := [12]) (by decide +kernel) (by simp) ?_
 refine AllReady.cons rfl (fun KK hK => ?_) AllReady.nil
 go_simp
 refine (PagePut.put_any g nq u0 (P.of kind link cells no) K ck HQ.out.2.2 HQ.out.1 (by have := HQ.out.2.1; omega) HRX.out hfc.1 hfc.2).mono ?_
 rintro e u1 ⟨_, hg⟩
 obtain ⟨rfl, hr1, ho1⟩ := hg HE.out
 go_simp
 refine hK _ _ ?_
 clear hK KK
 refine Reg.take_at (i := 13) (d := 16) (v := ?_) rfl rfl (by kernel_rfl) (by kernel_rfl) (by kernel_rfl) (fun _ _ _ h => h) (Or.inl ⟨by rfl, ?_⟩) ?_
 rotate_left 1
 ·intro w; go_simp <;> with_reducible rfl
 simp only [Act.put, List.setIfInBounds_toArray, List.set_cons_zero, List.set_cons_succ]
 refine Reg.take_at (i := 14) (d := 30) (v := ?_) rfl rfl (by kernel_rfl) (by kernel_rfl) (by kernel_rfl) (fun _ _ _ h => h) (Or.inl ⟨by rfl, ?_⟩) ?_
 rotate_left 1
 ·intro w; go_simp <;> with_reducible rfl
 simp only [Act.put, List.setIfInBounds_toArray, List.set_cons_zero, List.set_cons_succ]
 refine Reg.take_at (i := 15) (d := 31) (v := ?_) rfl rfl (by kernel_rfl) (by kernel_rfl) (by kernel_rfl) (fun _ _ _ h => h) (Or.inl ⟨by rfl, ?_⟩) ?_
 rotate_left 1
 ·intro w; go_simp <;> with_reducible rfl
 simp only [Act.put, List.setIfInBounds_toArray, List.set_cons_zero, List.set_cons_succ]
 refine Reg.take_at (i := 16) (d := 13) (v := ?_) rfl rfl (by kernel_rfl) (by kernel_rfl) (by kernel_rfl) (fun _ _ _ h => h) (Or.inl ⟨by rfl, ?_⟩) ?_
 rotate_left 1
 ·intro w; go_simp <;> with_reducible rfl
 simp only [Act.put, List.setIfInBounds_toArray, List.set_cons_zero, List.set_cons_succ]
 refine Reg.take_at (i := 17) (d := 14) (v := ?_) rfl rfl (by kernel_rfl) (by kernel_rfl) (by kernel_rfl) (fun _ _ _ h => h) (Or.inl ⟨by rfl, ?_⟩) ?_
 rotate_left 1
 ·intro w; go_simp <;> with_reducible rfl
 simp only [Act.put, List.setIfInBounds_toArray, List.set_cons_zero, List.set_cons_succ]
 refine wpAny_done (by kernel_rfl) ?_ _
 clear c1 c3
 have hs := HC.out.sums (m' := m + 1000) ho1 hr1 HQ.out.1 (by have := HQ.out.2.1; omega) (by omega)
 have HN := Lib.hid hs.1
 have HT := Lib.hid (T0.out.step hs.2)
 clear hs hr1 ho1
 have hne : (err (P.of kind link cells no) == 0) = false := by simpa using HE.out
 have hne2 : (err (P.of kind link cells no) != 0) = true := by simpa using HE.out
 generalize her : err (P.of kind link cells no) = er at *
 have HER := Lib.hid her
 clear her
 go_wp2_with fail
 go_ret
 exact ⟨congrArg (fun z => Ending.returned (.int .i64 z)) HER.out.symm, HN.out, HT.out⟩
set_option maxRecDepth 100000 in
set_option maxHeartbeats 6400000 in
theorem write_full (h : Cr W p d g mp S P X m nn FD A B C a b c) (h0 : 0 ≤ P.x.ep) (h1 : P.x.ep ≤ 4294967295) (hm : m ≤ 800000000) (no pages kind link : Int) (K : Option Addr) (ck : Nat) (cells : List ByteArray) (hfc : cells.length ≤ 1000 ∧ ∀ q ∈ cells, q.size ≤ 1000) (hr : RowP W X K (strs cells)) (he : err (P.of kind link cells no) = 0) (hful : S.most < pages) :
  Calls Tryz.prog 50 #[.pointer (some ⟨p, 0, none⟩), .int .i64 no, .int .i64 pages, .int .i64 kind, .int .i64 link, .slice K cells.length ck] W fun e w' => e = .returned (.int .i64 82) ∧ (∃ FD', Cr w' p d g mp S P X (m + 1000) nn FD' A B C a b c) ∧ Turn (Not X) W w' := by
 have HE := Lib.hid he
 have HM := Lib.hid hful
 clear he hful
 go_enter Tryz.func50, Tryz.ntmps50
 go_upto_region 1 with fail
 refine wp_region_any (by kernel_rfl) ?_
 change wpAny _ _ _ _ _ _ _ (World.drew _)
 generalize hu0 : World.drew W = u0
 have hC0 : Cr u0 p d g mp S P X m nn FD A B C a b c := by rw [← hu0]; exact h.below (Below.refl _ _).drew
 have T0 := Lib.hid (show Turn (Not X) W u0 by rw [← hu0]; exact Turn.ofBelow (Below.refl _ _).drew)
 have hrk : RowP u0 X K (strs cells) := by rw [← hu0]; exact hr.below (Below.refl _ _).drew
 have HRX := Lib.hid (hC0.rowX hrk)
 clear h hr hrk hu0
 obtain ⟨⟨_, c1, _⟩, ⟨c3, _⟩, _⟩ := pgc hC0.st
 obtain ⟨nq, hq0, hq1, hqr⟩ := hC0.su
 have HQ := Lib.hid (And.intro hq0 (And.intro hq1 hqr))
 clear hq0 hq1 hqr
 have HC := Lib.hid hC0
 clear hC0
 refine Reg.take_at (i := 0) (d := 17) (v := ?_) rfl rfl (by kernel_rfl) (by kernel_rfl) (by kernel_rfl) (fun _ _ _ h => h) (Or.inl ⟨by rfl, ?_⟩) ?_
 rotate_left 1
 ·intro w; go_simp <;> with_reducible rfl
 simp only [Act.put, List.setIfInBounds_toArray, List.set_cons_zero, List.set_cons_succ]
 refine Reg.take_at (i := 1) (d := 18) (v := ?_) rfl rfl (by kernel_rfl) (by kernel_rfl) (by kernel_rfl) (fun _ _ _ h => h) (Or.inl ⟨by rfl, ?_⟩) ?_
 rotate_left 1
 ·intro w; go_simp <;> with_reducible rfl
 simp only [Act.put, List.setIfInBounds_toArray, List.set_cons_zero, List.set_cons_succ]
 refine Reg.take_at (i := 2) (d := 19) (v := ?_) rfl rfl (by kernel_rfl) (by kernel_rfl) (by kernel_rfl) (fun _ _ _ h => h) (Or.inl ⟨by rfl, ?_⟩) ?_
 rotate_left 1
 ·intro w; go_simp <;> with_reducible rfl
 simp only [Act.put, List.setIfInBounds_toArray, List.set_cons_zero, List.set_cons_succ]
 refine Reg.take_at (i := 3) (d := 20) (v := ?_) rfl rfl (by kernel_rfl) (by kernel_rfl) (by kernel_rfl) (fun _ _ _ h => h) (Or.inl ⟨by rfl, ?_⟩) ?_
 rotate_left 1
 ·intro w; go_simp <;> with_reducible rfl
 simp only [Act.put, List.setIfInBounds_toArray, List.set_cons_zero, List.set_cons_succ]
 refine Reg.take_at (i := 5) (d := 22) (v := ?_) rfl rfl (by kernel_rfl) (by kernel_rfl) (by kernel_rfl) (fun _ _ _ h => h) (Or.inl ⟨by rfl, ?_⟩) ?_
 rotate_left 1
 ·intro w; go_simp <;> with_reducible rfl
 simp only [Act.put, List.setIfInBounds_toArray, List.set_cons_zero, List.set_cons_succ]
 refine Reg.take_at (i := 6) (d := 23) (v := ?_) rfl rfl (by kernel_rfl) (by kernel_rfl) (by kernel_rfl) (fun _ _ _ h => h) (Or.inl ⟨by rfl, ?_⟩) ?_
 rotate_left 1
 ·intro w; go_simp <;> with_reducible rfl
 simp only [Act.put, List.setIfInBounds_toArray, List.set_cons_zero, List.set_cons_succ]
 refine Reg.take_at (i := 7) (d := 24) (v := ?_) rfl rfl (by kernel_rfl) (by kernel_rfl) (by kernel_rfl) (fun _ _ _ h => h) (Or.inl ⟨by rfl, ?_⟩) ?_
 rotate_left 1
 ·intro w; go_simp <;> with_reducible rfl
 simp only [Act.put, List.setIfInBounds_toArray, List.set_cons_zero, List.set_cons_succ]
 refine Reg.take_at (i := 9) (d := 26) (v := ?_) rfl rfl (by kernel_rfl) (by kernel_rfl) (by kernel_rfl) (fun _ _ _ h => h) (Or.inl ⟨by rfl, ?_⟩) ?_
 rotate_left 1
 ·intro w; go_simp <;> with_reducible rfl
 simp only [Act.put, List.setIfInBounds_toArray, List.set_cons_zero, List.set_cons_succ]
 refine Reg.take_at (i := 10) (d := 27) (v := ?_) rfl rfl (by kernel_rfl) (by kernel_rfl) (by kernel_rfl) (fun _ _ _ h => h) (Or.inl ⟨by rfl, ?_⟩) ?_
 rotate_left 1
 ·intro w; go_simp <;> with_reducible rfl
 simp only [Act.put, List.setIfInBounds_toArray, List.set_cons_zero, List.set_cons_succ]
 refine wpAny_ready (rs := [4, 8]) (by decide +kernel) (by simp) ?_
 refine AllReady.cons rfl (fun KK hK => ?_) ?_
 ·go_simp
  refine hK _ _ ?_
  clear hK KK
  refine wpAny_ready (rs := [8]) (by decide +kernel) (by simp) ?_
  refine AllReady.cons rfl (fun KK hK => ?_) AllReady.nil
  go_simp
  refine (epoch_any u0 p P.x.ep c3 h0 h1).mono ?_
  rintro e u9 ⟨rfl, rfl⟩
  go_simp
  refine hK _ _ ?_
  clear hK KK
  refine Reg.take_at (i := 11) (d := 28) (v := ?_) rfl rfl (by kernel_rfl) (by kernel_rfl) (by kernel_rfl) (fun _ _ _ h => h) (Or.inl ⟨by rfl, ?_⟩) ?_
  rotate_left 1
  ·intro w; go_simp <;> with_reducible rfl
  simp only [Act.put, List.setIfInBounds_toArray, List.set_cons_zero, List.set_cons_succ]
  refine wpAny_ready (rs := [12]) (by decide +kernel) (by simp) ?_
  refine AllReady.cons rfl (fun KK hK => ?_) AllReady.nil
  go_simp
  refine (PagePut.put_any g nq u0 (P.of kind link cells no) K ck HQ.out.2.2 HQ.out.1 (by have := HQ.out.2.1; omega) HRX.out hfc.1 hfc.2).mono ?_
  rintro e u1 ⟨hg, _⟩
  obtain ⟨bk, rfl, hbk, har, hr1, ho1⟩ := hg HE.out
  go_simp
  refine hK _ _ ?_
  clear hK KK
  refine Reg.take_at (i := 13) (d := 16) (v := ?_) rfl rfl (by kernel_rfl) (by kernel_rfl) (by kernel_rfl) (fun _ _ _ h => h) (Or.inl ⟨by rfl, ?_⟩) ?_
  rotate_left 1
  ·intro w; go_simp <;> with_reducible rfl
  simp only [Act.put, List.setIfInBounds_toArray, List.set_cons_zero, List.set_cons_succ]
  refine Reg.take_at (i := 14) (d := 30) (v := ?_) rfl rfl (by kernel_rfl) (by kernel_rfl) (by kernel_rfl) (fun _ _ _ h => h) (Or.inl ⟨by rfl, ?_⟩) ?_
  rotate_left 1
  ·intro w; go_simp <;> with_reducible rfl
  simp only [Act.put, List.setIfInBounds_toArray, List.set_cons_zero, List.set_cons_succ]
  refine Reg.take_at (i := 15) (d := 31) (v := ?_) rfl rfl (by kernel_rfl) (by kernel_rfl) (by kernel_rfl) (fun _ _ _ h => h) (Or.inl ⟨by rfl, ?_⟩) ?_
  rotate_left 1
  ·intro w; go_simp <;> with_reducible rfl
  simp only [Act.put, List.setIfInBounds_toArray, List.set_cons_zero, List.set_cons_succ]
  refine Reg.take_at (i := 16) (d := 13) (v := ?_) rfl rfl (by kernel_rfl) (by kernel_rfl) (by kernel_rfl) (fun _ _ _ h => h) (Or.inl ⟨by rfl, ?_⟩) ?_
  rotate_left 1
  ·intro w; go_simp <;> with_reducible rfl
  simp only [Act.put, List.setIfInBounds_toArray, List.set_cons_zero, List.set_cons_succ]
  refine Reg.take_at (i := 17) (d := 14) (v := ?_) rfl rfl (by kernel_rfl) (by kernel_rfl) (by kernel_rfl) (fun _ _ _ h => h) (Or.inl ⟨by rfl, ?_⟩) ?_
  rotate_left 1
  ·intro w; go_simp <;> with_reducible rfl
  simp only [Act.put, List.setIfInBounds_toArray, List.set_cons_zero, List.set_cons_succ]
  refine wpAny_done (by kernel_rfl) ?_ _
  clear c1 c3
  have hs := HC.out.sums (m' := m + 1000) ho1 hr1 (by have := HQ.out.1; omega) (by have := HQ.out.2.1; omega) (by omega)
  have h2 := hs.1
  have T2 := Lib.hid (T0.out.step hs.2)
  have hnb : ¬ FD bk := fun z => by have := (HC.out.nf bk z).1; omega
  clear hs hr1 ho1
  have r2 : RowP u1 (fun i => i = bk) (some ⟨bk, 0, none⟩) (bv (page (P.of kind link cells no))) := fun k v hv => by
   obtain ⟨ad, e1, e2, e3⟩ := (PageBytes.Arr.row har) k v hv
   injection e1 with e1
   subst e1
   exact ⟨_, rfl, rfl, e2, e3⟩
  obtain ⟨⟨e0, _, _⟩, _⟩ := pgc h2.st
  have hcall := DiskGrow.grow_dk h2.dk pages
  clear har
  rw [(PagerDisk.grow_full HM.out).1, (PagerDisk.grow_full HM.out).2] at hcall
  clear r2 hnb
  go_wp2_with fail
  (with_reducible refine hcall.mono ?_)
  clear hcall
  rintro e u2 ⟨rfl, hw⟩
  obtain ⟨⟨FD', h3⟩, t3⟩ := h2.went hw h2.lo
  have HN := Lib.hid h3
  have HT := Lib.hid (T2.out.step t3)
  clear hw h3 t3 h2 e0
  go_wp2_with fail
  go_ret
  exact ⟨rfl, ⟨FD', HN.out⟩, HT.out⟩
 refine AllReady.cons rfl (fun KK hK => ?_) AllReady.nil
 go_simp
 refine (epoch_any u0 p P.x.ep c3 h0 h1).mono ?_
 rintro e u9 ⟨rfl, rfl⟩
 go_simp
 refine hK _ _ ?_
 clear hK KK
 refine Reg.take_at (i := 11) (d := 28) (v := ?_) rfl rfl (by kernel_rfl) (by kernel_rfl) (by kernel_rfl) (fun _ _ _ h => h) (Or.inl ⟨by rfl, ?_⟩) ?_
 rotate_left 1
 ·intro w; go_simp <;> with_reducible rfl
 simp only [Act.put, List.setIfInBounds_toArray, List.set_cons_zero, List.set_cons_succ]
 refine wpAny_ready (rs := [4]) (by decide +kernel) (by simp) ?_
 refine AllReady.cons rfl (fun KK hK => ?_) AllReady.nil
 go_simp
 refine hK _ _ ?_
 clear hK KK
 refine wpAny_ready (rs := [12]) (by decide +kernel) (by simp) ?_
 refine AllReady.cons rfl (fun KK hK => ?_) AllReady.nil
 go_simp
 refine (PagePut.put_any g nq u0 (P.of kind link cells no) K ck HQ.out.2.2 HQ.out.1 (by have := HQ.out.2.1; omega) HRX.out hfc.1 hfc.2).mono ?_
 rintro e u1 ⟨hg, _⟩
 obtain ⟨bk, rfl, hbk, har, hr1, ho1⟩ := hg HE.out
 go_simp
 refine hK _ _ ?_
 clear hK KK
 refine Reg.take_at (i := 13) (d := 16) (v := ?_) rfl rfl (by kernel_rfl) (by kernel_rfl) (by kernel_rfl) (fun _ _ _ h => h) (Or.inl ⟨by rfl, ?_⟩) ?_
 rotate_left 1
 ·intro w; go_simp <;> with_reducible rfl
 simp only [Act.put, List.setIfInBounds_toArray, List.set_cons_zero, List.set_cons_succ]
 refine Reg.take_at (i := 14) (d := 30) (v := ?_) rfl rfl (by kernel_rfl) (by kernel_rfl) (by kernel_rfl) (fun _ _ _ h => h) (Or.inl ⟨by rfl, ?_⟩) ?_
 rotate_left 1
 ·intro w; go_simp <;> with_reducible rfl
 simp only [Act.put, List.setIfInBounds_toArray, List.set_cons_zero, List.set_cons_succ]
 refine Reg.take_at (i := 15) (d := 31) (v := ?_) rfl rfl (by kernel_rfl) (by kernel_rfl) (by kernel_rfl) (fun _ _ _ h => h) (Or.inl ⟨by rfl, ?_⟩) ?_
 rotate_left 1
 ·intro w; go_simp <;> with_reducible rfl
 simp only [Act.put, List.setIfInBounds_toArray, List.set_cons_zero, List.set_cons_succ]
 refine Reg.take_at (i := 16) (d := 13) (v := ?_) rfl rfl (by kernel_rfl) (by kernel_rfl) (by kernel_rfl) (fun _ _ _ h => h) (Or.inl ⟨by rfl, ?_⟩) ?_
 rotate_left 1
 ·intro w; go_simp <;> with_reducible rfl
 simp only [Act.put, List.setIfInBounds_toArray, List.set_cons_zero, List.set_cons_succ]
 refine Reg.take_at (i := 17) (d := 14) (v := ?_) rfl rfl (by kernel_rfl) (by kernel_rfl) (by kernel_rfl) (fun _ _ _ h => h) (Or.inl ⟨by rfl, ?_⟩) ?_
 rotate_left 1
 ·intro w; go_simp <;> with_reducible rfl
 simp only [Act.put, List.setIfInBounds_toArray, List.set_cons_zero, List.set_cons_succ]
 refine wpAny_done (by kernel_rfl) ?_ _
 clear c1 c3
 have hs := HC.out.sums (m' := m + 1000) ho1 hr1 (by have := HQ.out.1; omega) (by have := HQ.out.2.1; omega) (by omega)
 have h2 := hs.1
 have T2 := Lib.hid (T0.out.step hs.2)
 have hnb : ¬ FD bk := fun z => by have := (HC.out.nf bk z).1; omega
 clear hs hr1 ho1
 have r2 : RowP u1 (fun i => i = bk) (some ⟨bk, 0, none⟩) (bv (page (P.of kind link cells no))) := fun k v hv => by
  obtain ⟨ad, e1, e2, e3⟩ := (PageBytes.Arr.row har) k v hv
  injection e1 with e1
  subst e1
  exact ⟨_, rfl, rfl, e2, e3⟩
 obtain ⟨⟨e0, _, _⟩, _⟩ := pgc h2.st
 have hcall := DiskGrow.grow_dk h2.dk pages
 clear har
 rw [(PagerDisk.grow_full HM.out).1, (PagerDisk.grow_full HM.out).2] at hcall
 clear r2 hnb
 go_wp2_with fail
 (with_reducible refine hcall.mono ?_)
 clear hcall
 rintro e u2 ⟨rfl, hw⟩
 obtain ⟨⟨FD', h3⟩, t3⟩ := h2.went hw h2.lo
 have HN := Lib.hid h3
 have HT := Lib.hid (T2.out.step t3)
 clear hw h3 t3 h2 e0
 go_wp2_with fail
 go_ret
 exact ⟨rfl, ⟨FD', HN.out⟩, HT.out⟩
set_option maxRecDepth 100000 in
set_option maxHeartbeats 6400000 in
theorem write_good (h : Cr W p d g mp S P X m nn FD A B C a b c) (h0 : 0 ≤ P.x.ep) (h1 : P.x.ep ≤ 4294967295) (hm : m ≤ 800000000) (no pages kind link : Int) (K : Option Addr) (ck : Nat) (cells : List ByteArray) (hfc : cells.length ≤ 1000 ∧ ∀ q ∈ cells, q.size ≤ 1000) (hr : RowP W X K (strs cells)) (he : err (P.of kind link cells no) = 0) (hg : S.growE pages = 0 ∧ (S.grow pages).loose.length = S.loose.length ∧ (S.grow pages).writeE no (page (P.of kind link cells no)) = 0 ∧ (page (P.of kind link cells no)).length = 256 ∧ ((S.grow pages).write no (page (P.of kind link cells no))).loose.length = (S.grow pages).loose.length + 1) :
  Calls Tryz.prog 50 #[.pointer (some ⟨p, 0, none⟩), .int .i64 no, .int .i64 pages, .int .i64 kind, .int .i64 link, .slice K cells.length ck] W fun e w' => e = .returned (.int .i64 0) ∧ (∃ FD', Cr w' p d g mp ((S.grow pages).write no (page (P.of kind link cells no))) P X (m + 2000) nn FD' A B C a b c) ∧ Turn (Not X) W w' := by
 have HE := Lib.hid he
 have HG := Lib.hid hg
 clear he hg
 go_enter Tryz.func50, Tryz.ntmps50
 go_upto_region 1 with fail
 refine wp_region_any (by kernel_rfl) ?_
 change wpAny _ _ _ _ _ _ _ (World.drew _)
 generalize hu0 : World.drew W = u0
 have hC0 : Cr u0 p d g mp S P X m nn FD A B C a b c := by rw [← hu0]; exact h.below (Below.refl _ _).drew
 have T0 := Lib.hid (show Turn (Not X) W u0 by rw [← hu0]; exact Turn.ofBelow (Below.refl _ _).drew)
 have hrk : RowP u0 X K (strs cells) := by rw [← hu0]; exact hr.below (Below.refl _ _).drew
 have HRX := Lib.hid (hC0.rowX hrk)
 clear h hr hrk hu0
 obtain ⟨⟨_, c1, _⟩, ⟨c3, _⟩, _⟩ := pgc hC0.st
 obtain ⟨nq, hq0, hq1, hqr⟩ := hC0.su
 have HQ := Lib.hid (And.intro hq0 (And.intro hq1 hqr))
 clear hq0 hq1 hqr
 have HC := Lib.hid hC0
 clear hC0
 refine Reg.take_at (i := 0) (d := 17) (v := ?_) rfl rfl (by kernel_rfl) (by kernel_rfl) (by kernel_rfl) (fun _ _ _ h => h) (Or.inl ⟨by rfl, ?_⟩) ?_
 rotate_left 1
 ·intro w; go_simp <;> with_reducible rfl
 simp only [Act.put, List.setIfInBounds_toArray, List.set_cons_zero, List.set_cons_succ]
 refine Reg.take_at (i := 1) (d := 18) (v := ?_) rfl rfl (by kernel_rfl) (by kernel_rfl) (by kernel_rfl) (fun _ _ _ h => h) (Or.inl ⟨by rfl, ?_⟩) ?_
 rotate_left 1
 ·intro w; go_simp <;> with_reducible rfl
 simp only [Act.put, List.setIfInBounds_toArray, List.set_cons_zero, List.set_cons_succ]
 refine Reg.take_at (i := 2) (d := 19) (v := ?_) rfl rfl (by kernel_rfl) (by kernel_rfl) (by kernel_rfl) (fun _ _ _ h => h) (Or.inl ⟨by rfl, ?_⟩) ?_
 rotate_left 1
 ·intro w; go_simp <;> with_reducible rfl
 simp only [Act.put, List.setIfInBounds_toArray, List.set_cons_zero, List.set_cons_succ]
 refine Reg.take_at (i := 3) (d := 20) (v := ?_) rfl rfl (by kernel_rfl) (by kernel_rfl) (by kernel_rfl) (fun _ _ _ h => h) (Or.inl ⟨by rfl, ?_⟩) ?_
 rotate_left 1
 ·intro w; go_simp <;> with_reducible rfl
 simp only [Act.put, List.setIfInBounds_toArray, List.set_cons_zero, List.set_cons_succ]
 refine Reg.take_at (i := 5) (d := 22) (v := ?_) rfl rfl (by kernel_rfl) (by kernel_rfl) (by kernel_rfl) (fun _ _ _ h => h) (Or.inl ⟨by rfl, ?_⟩) ?_
 rotate_left 1
 ·intro w; go_simp <;> with_reducible rfl
 simp only [Act.put, List.setIfInBounds_toArray, List.set_cons_zero, List.set_cons_succ]
 refine Reg.take_at (i := 6) (d := 23) (v := ?_) rfl rfl (by kernel_rfl) (by kernel_rfl) (by kernel_rfl) (fun _ _ _ h => h) (Or.inl ⟨by rfl, ?_⟩) ?_
 rotate_left 1
 ·intro w; go_simp <;> with_reducible rfl
 simp only [Act.put, List.setIfInBounds_toArray, List.set_cons_zero, List.set_cons_succ]
 refine Reg.take_at (i := 7) (d := 24) (v := ?_) rfl rfl (by kernel_rfl) (by kernel_rfl) (by kernel_rfl) (fun _ _ _ h => h) (Or.inl ⟨by rfl, ?_⟩) ?_
 rotate_left 1
 ·intro w; go_simp <;> with_reducible rfl
 simp only [Act.put, List.setIfInBounds_toArray, List.set_cons_zero, List.set_cons_succ]
 refine Reg.take_at (i := 9) (d := 26) (v := ?_) rfl rfl (by kernel_rfl) (by kernel_rfl) (by kernel_rfl) (fun _ _ _ h => h) (Or.inl ⟨by rfl, ?_⟩) ?_
 rotate_left 1
 ·intro w; go_simp <;> with_reducible rfl
 simp only [Act.put, List.setIfInBounds_toArray, List.set_cons_zero, List.set_cons_succ]
 refine Reg.take_at (i := 10) (d := 27) (v := ?_) rfl rfl (by kernel_rfl) (by kernel_rfl) (by kernel_rfl) (fun _ _ _ h => h) (Or.inl ⟨by rfl, ?_⟩) ?_
 rotate_left 1
 ·intro w; go_simp <;> with_reducible rfl
 simp only [Act.put, List.setIfInBounds_toArray, List.set_cons_zero, List.set_cons_succ]
 refine wpAny_ready (rs := [4, 8]) (by decide +kernel) (by simp) ?_
 refine AllReady.cons rfl (fun KK hK => ?_) ?_
 ·go_simp
  refine hK _ _ ?_
  clear hK KK
  refine wpAny_ready (rs := [8]) (by decide +kernel) (by simp) ?_
  refine AllReady.cons rfl (fun KK hK => ?_) AllReady.nil
  go_simp
  refine (epoch_any u0 p P.x.ep c3 h0 h1).mono ?_
  rintro e u9 ⟨rfl, rfl⟩
  go_simp
  refine hK _ _ ?_
  clear hK KK
  refine Reg.take_at (i := 11) (d := 28) (v := ?_) rfl rfl (by kernel_rfl) (by kernel_rfl) (by kernel_rfl) (fun _ _ _ h => h) (Or.inl ⟨by rfl, ?_⟩) ?_
  rotate_left 1
  ·intro w; go_simp <;> with_reducible rfl
  simp only [Act.put, List.setIfInBounds_toArray, List.set_cons_zero, List.set_cons_succ]
  refine wpAny_ready (rs := [12]) (by decide +kernel) (by simp) ?_
  refine AllReady.cons rfl (fun KK hK => ?_) AllReady.nil
  go_simp
  refine (PagePut.put_any g nq u0 (P.of kind link cells no) K ck HQ.out.2.2 HQ.out.1 (by have := HQ.out.2.1; omega) HRX.out hfc.1 hfc.2).mono ?_
  rintro e u1 ⟨hg, _⟩
  obtain ⟨bk, rfl, hbk, har, hr1, ho1⟩ := hg HE.out
  go_simp
  refine hK _ _ ?_
  clear hK KK
  refine Reg.take_at (i := 13) (d := 16) (v := ?_) rfl rfl (by kernel_rfl) (by kernel_rfl) (by kernel_rfl) (fun _ _ _ h => h) (Or.inl ⟨by rfl, ?_⟩) ?_
  rotate_left 1
  ·intro w; go_simp <;> with_reducible rfl
  simp only [Act.put, List.setIfInBounds_toArray, List.set_cons_zero, List.set_cons_succ]
  refine Reg.take_at (i := 14) (d := 30) (v := ?_) rfl rfl (by kernel_rfl) (by kernel_rfl) (by kernel_rfl) (fun _ _ _ h => h) (Or.inl ⟨by rfl, ?_⟩) ?_
  rotate_left 1
  ·intro w; go_simp <;> with_reducible rfl
  simp only [Act.put, List.setIfInBounds_toArray, List.set_cons_zero, List.set_cons_succ]
  refine Reg.take_at (i := 15) (d := 31) (v := ?_) rfl rfl (by kernel_rfl) (by kernel_rfl) (by kernel_rfl) (fun _ _ _ h => h) (Or.inl ⟨by rfl, ?_⟩) ?_
  rotate_left 1
  ·intro w; go_simp <;> with_reducible rfl
  simp only [Act.put, List.setIfInBounds_toArray, List.set_cons_zero, List.set_cons_succ]
  refine Reg.take_at (i := 16) (d := 13) (v := ?_) rfl rfl (by kernel_rfl) (by kernel_rfl) (by kernel_rfl) (fun _ _ _ h => h) (Or.inl ⟨by rfl, ?_⟩) ?_
  rotate_left 1
  ·intro w; go_simp <;> with_reducible rfl
  simp only [Act.put, List.setIfInBounds_toArray, List.set_cons_zero, List.set_cons_succ]
  refine Reg.take_at (i := 17) (d := 14) (v := ?_) rfl rfl (by kernel_rfl) (by kernel_rfl) (by kernel_rfl) (fun _ _ _ h => h) (Or.inl ⟨by rfl, ?_⟩) ?_
  rotate_left 1
  ·intro w; go_simp <;> with_reducible rfl
  simp only [Act.put, List.setIfInBounds_toArray, List.set_cons_zero, List.set_cons_succ]
  refine wpAny_done (by kernel_rfl) ?_ _
  clear c1 c3
  have hs := HC.out.sums (m' := m + 1000) ho1 hr1 (by have := HQ.out.1; omega) (by have := HQ.out.2.1; omega) (by omega)
  have h2 := hs.1
  have T2 := Lib.hid (T0.out.step hs.2)
  have hnb : ¬ FD bk := fun z => by have := (HC.out.nf bk z).1; omega
  clear hs hr1 ho1
  have r2 : RowP u1 (fun i => i = bk) (some ⟨bk, 0, none⟩) (bv (page (P.of kind link cells no))) := fun k v hv => by
   obtain ⟨ad, e1, e2, e3⟩ := (PageBytes.Arr.row har) k v hv
   injection e1 with e1
   subst e1
   exact ⟨_, rfl, rfl, e2, e3⟩
  obtain ⟨⟨e0, _, _⟩, _⟩ := pgc h2.st
  have hcall := DiskGrow.grow_dk h2.dk pages
  clear har
  rw [HG.out.1] at hcall
  go_wp2_with fail
  (with_reducible refine hcall.mono ?_)
  clear hcall
  rintro e u2 ⟨rfl, hw⟩
  have r3 := r2.turn (DiskMem.Went.turn_ hw) fun b e z => hnb (by rw [← show b = bk from e]; exact z)
  obtain ⟨⟨FD', h3⟩, t3⟩ := h2.went hw (by rw [HG.out.2.1]; exact h2.lo)
  have T3 := Lib.hid (T2.out.step t3)
  clear hw h2 t3 e0 r2
  obtain ⟨⟨e0, _, _⟩, _⟩ := pgc h3.st
  have hlq := h3.lo
  have hcall := DiskWrite.write_dk h3.dk no (some ⟨bk, 0, none⟩) 256 (page (P.of kind link cells no)) (by omega) r3.row
  rw [HG.out.2.2.1, HG.out.2.2.2.1] at hcall
  go_wp2_with fail
  (with_reducible refine hcall.mono ?_)
  clear hcall
  rintro e u3 ⟨rfl, hw⟩
  obtain ⟨⟨FD2, h4⟩, t4⟩ := (h3.up (show m + 1000 ≤ m + 2000 by omega)).went hw (by rw [HG.out.2.2.2.2, HG.out.2.1]; have := HC.out.lo; push_cast; omega)
  have HN := Lib.hid h4
  have HT := Lib.hid (T3.out.step t4)
  clear hw h3 h4 t4 e0 r3 hlq
  go_wp2_with fail
  go_ret
  exact ⟨rfl, ⟨FD2, HN.out⟩, HT.out⟩
 refine AllReady.cons rfl (fun KK hK => ?_) AllReady.nil
 go_simp
 refine (epoch_any u0 p P.x.ep c3 h0 h1).mono ?_
 rintro e u9 ⟨rfl, rfl⟩
 go_simp
 refine hK _ _ ?_
 clear hK KK
 refine Reg.take_at (i := 11) (d := 28) (v := ?_) rfl rfl (by kernel_rfl) (by kernel_rfl) (by kernel_rfl) (fun _ _ _ h => h) (Or.inl ⟨by rfl, ?_⟩) ?_
 rotate_left 1
 ·intro w; go_simp <;> with_reducible rfl
 simp only [Act.put, List.setIfInBounds_toArray, List.set_cons_zero, List.set_cons_succ]
 refine wpAny_ready (rs := [4]) (by decide +kernel) (by simp) ?_
 refine AllReady.cons rfl (fun KK hK => ?_) AllReady.nil
 go_simp
 refine hK _ _ ?_
 clear hK KK
 refine wpAny_ready (rs := [12]) (by decide +kernel) (by simp) ?_
 refine AllReady.cons rfl (fun KK hK => ?_) AllReady.nil
 go_simp
 refine (PagePut.put_any g nq u0 (P.of kind link cells no) K ck HQ.out.2.2 HQ.out.1 (by have := HQ.out.2.1; omega) HRX.out hfc.1 hfc.2).mono ?_
 rintro e u1 ⟨hg, _⟩
 obtain ⟨bk, rfl, hbk, har, hr1, ho1⟩ := hg HE.out
 go_simp
 refine hK _ _ ?_
 clear hK KK
 refine Reg.take_at (i := 13) (d := 16) (v := ?_) rfl rfl (by kernel_rfl) (by kernel_rfl) (by kernel_rfl) (fun _ _ _ h => h) (Or.inl ⟨by rfl, ?_⟩) ?_
 rotate_left 1
 ·intro w; go_simp <;> with_reducible rfl
 simp only [Act.put, List.setIfInBounds_toArray, List.set_cons_zero, List.set_cons_succ]
 refine Reg.take_at (i := 14) (d := 30) (v := ?_) rfl rfl (by kernel_rfl) (by kernel_rfl) (by kernel_rfl) (fun _ _ _ h => h) (Or.inl ⟨by rfl, ?_⟩) ?_
 rotate_left 1
 ·intro w; go_simp <;> with_reducible rfl
 simp only [Act.put, List.setIfInBounds_toArray, List.set_cons_zero, List.set_cons_succ]
 refine Reg.take_at (i := 15) (d := 31) (v := ?_) rfl rfl (by kernel_rfl) (by kernel_rfl) (by kernel_rfl) (fun _ _ _ h => h) (Or.inl ⟨by rfl, ?_⟩) ?_
 rotate_left 1
 ·intro w; go_simp <;> with_reducible rfl
 simp only [Act.put, List.setIfInBounds_toArray, List.set_cons_zero, List.set_cons_succ]
 refine Reg.take_at (i := 16) (d := 13) (v := ?_) rfl rfl (by kernel_rfl) (by kernel_rfl) (by kernel_rfl) (fun _ _ _ h => h) (Or.inl ⟨by rfl, ?_⟩) ?_
 rotate_left 1
 ·intro w; go_simp <;> with_reducible rfl
 simp only [Act.put, List.setIfInBounds_toArray, List.set_cons_zero, List.set_cons_succ]
 refine Reg.take_at (i := 17) (d := 14) (v := ?_) rfl rfl (by kernel_rfl) (by kernel_rfl) (by kernel_rfl) (fun _ _ _ h => h) (Or.inl ⟨by rfl, ?_⟩) ?_
 rotate_left 1
 ·intro w; go_simp <;> with_reducible rfl
 simp only [Act.put, List.setIfInBounds_toArray, List.set_cons_zero, List.set_cons_succ]
 refine wpAny_done (by kernel_rfl) ?_ _
 clear c1 c3
 have hs := HC.out.sums (m' := m + 1000) ho1 hr1 (by have := HQ.out.1; omega) (by have := HQ.out.2.1; omega) (by omega)
 have h2 := hs.1
 have T2 := Lib.hid (T0.out.step hs.2)
 have hnb : ¬ FD bk := fun z => by have := (HC.out.nf bk z).1; omega
 clear hs hr1 ho1
 have r2 : RowP u1 (fun i => i = bk) (some ⟨bk, 0, none⟩) (bv (page (P.of kind link cells no))) := fun k v hv => by
  obtain ⟨ad, e1, e2, e3⟩ := (PageBytes.Arr.row har) k v hv
  injection e1 with e1
  subst e1
  exact ⟨_, rfl, rfl, e2, e3⟩
 obtain ⟨⟨e0, _, _⟩, _⟩ := pgc h2.st
 have hcall := DiskGrow.grow_dk h2.dk pages
 clear har
 rw [HG.out.1] at hcall
 go_wp2_with fail
 (with_reducible refine hcall.mono ?_)
 clear hcall
 rintro e u2 ⟨rfl, hw⟩
 have r3 := r2.turn (DiskMem.Went.turn_ hw) fun b e z => hnb (by rw [← show b = bk from e]; exact z)
 obtain ⟨⟨FD', h3⟩, t3⟩ := h2.went hw (by rw [HG.out.2.1]; exact h2.lo)
 have T3 := Lib.hid (T2.out.step t3)
 clear hw h2 t3 e0 r2
 obtain ⟨⟨e0, _, _⟩, _⟩ := pgc h3.st
 have hlq := h3.lo
 have hcall := DiskWrite.write_dk h3.dk no (some ⟨bk, 0, none⟩) 256 (page (P.of kind link cells no)) (by omega) r3.row
 rw [HG.out.2.2.1, HG.out.2.2.2.1] at hcall
 go_wp2_with fail
 (with_reducible refine hcall.mono ?_)
 clear hcall
 rintro e u3 ⟨rfl, hw⟩
 obtain ⟨⟨FD2, h4⟩, t4⟩ := (h3.up (show m + 1000 ≤ m + 2000 by omega)).went hw (by rw [HG.out.2.2.2.2, HG.out.2.1]; have := HC.out.lo; push_cast; omega)
 have HN := Lib.hid h4
 have HT := Lib.hid (T3.out.step t4)
 clear hw h3 h4 t4 e0 r3 hlq
 go_wp2_with fail
 go_ret
 exact ⟨rfl, ⟨FD2, HN.out⟩, HT.out⟩
end
end Go.Proofs.YtpidnkfcccboaaaGreat.PagerCode
namespace Go.Proofs.YtpidnkfcccboaaaGreat.PagerCode
open Go.RowKit Base PagePlain PageSmall FreePlain FreeMem SuperPlain SuperRefCheck PagerPlain PagerTold PagerNum PagerSpec SumOf DiskPlain DiskMem DiskSmall PagerMem PagerDisk Go.Maps

section
variable {W w w' : World} {p d g mp : Nat} {S : DS} {P P' : PS} {X Y G : Blks} {m m' : Int} {nn : Nat} {FD : Blks} {A B C : Option Addr} {a b c : Nat}
theorem _root_.Go.Proofs.YtpidnkfcccboaaaGreat.PagerMem.Cr.as (h : Cr w p d g mp S P X m nn FD A B C a b c) (e1 : P'.pg = P.pg) (e2 : P'.x = P.x) (e3 : P'.fl = P.fl) (e4 : P'.ch = P.ch) (e5 : P'.nw = P.nw) (e6 : P'.od = P.od) (e7 : P'.tf = P.tf) : Cr w p d g mp S P' X m nn FD A B C a b c := by
 obtain ⟨most, len, rd, x, fl, ch, nw, pg, od, tf⟩ := P
 obtain ⟨most', len', rd', x', fl', ch', nw', pg', od', tf'⟩ := P'
 simp only at e1 e2 e3 e4 e5 e6 e7
 subst e1 e2 e3 e4 e5 e6 e7
 exact ⟨h.st, h.dk, h.su, h.lo, h.ms, h.nn, h.la, h.lb, h.lc, h.ra, h.rb, h.rc, h.nf, h.xp, h.xg, h.xm, h.pg, h.pm, h.gm, h.xl⟩
theorem _root_.Go.Proofs.YtpidnkfcccboaaaGreat.PagerMem.Cr.lessRow (h : Cr w p d g mp S P Y m nn FD A B C a b c) {K : Option Addr} {vs : List Value} (hr : RowP w (fun i => Y i ∧ ¬ X i) K vs) : RowP w (Out p g mp FD X) K vs :=
 hr.wide fun i hi => ⟨hi.2, fun z => (h.nf i z).2.1 hi.1, fun z => h.xp (z ▸ hi.1), fun z => h.xg (z ▸ hi.1), fun z => h.xm (z ▸ hi.1)⟩
theorem turn_plus_ {S : Blks} {w w1 w' : World} (hb : Below w.heap.size w w1) (t : Turn (Not (Plus S w w1)) w1 w') : Turn (Not S) w w' :=
 ⟨t.os.trans hb.os, t.tape.trans hb.tape, t.output.trans hb.output, Nat.le_trans hb.size t.size, fun k hk hn => by
  have hs : S k := Classical.byContradiction hn
  exact (t.block k (Nat.lt_of_lt_of_le hk hb.size) fun q => q (Or.inl hs)).trans (hb.block k hk)⟩
theorem err_no {P : PS} {kind link : Int} {cells : List ByteArray} {no : Int} (h1 : 0 ≤ no) (h2 : no ≤ 4294967295) : err (P.of kind link cells no) = err (P.of kind link cells 0) := by
 have e : PgOk (P.of kind link cells no) ↔ PgOk (P.of kind link cells 0) := by
  show (1 ≤ kind ∧ kind ≤ 255 ∧ 0 ≤ no ∧ no ≤ 4294967295 ∧ 0 ≤ P.x.ep + 1 ∧ P.x.ep + 1 ≤ 4294967295 ∧ 0 ≤ link ∧ link ≤ 4294967295) ↔ (1 ≤ kind ∧ kind ≤ 255 ∧ 0 ≤ (0 : Int) ∧ (0 : Int) ≤ 4294967295 ∧ 0 ≤ P.x.ep + 1 ∧ P.x.ep + 1 ≤ 4294967295 ∧ 0 ≤ link ∧ link ≤ 4294967295)
  omega
 unfold err
 show (if room cells ≤ 236 then if PgOk (P.of kind link cells no) then (0 : Int) else 41 else 40) = if room cells ≤ 236 then if PgOk (P.of kind link cells 0) then (0 : Int) else 41 else 40
 by_cases q : PgOk (P.of kind link cells no)
 ·rw [if_pos q, if_pos (e.1 q)]
 ·rw [if_neg q, if_neg fun z => q (e.2 z)]
theorem page_256 {q : PagePlain.Pg} (h : err q = 0) : (page q).length = 256 := page_len _ ((PagePut.err_zero _).1 h).1
/-- the disk behind a page that is made -/
def _root_.Go.Proofs.YtpidnkfcccboaaaGreat.DiskPlain.DS.made (S : DS) (pages no : Int) (b : By) : DS := (S.grow pages).write no b
theorem made_agree (ha : Agree S P) (hS : S.Ok) {pages no : Int} {b : By} (hb : b.length = 256) (_h1 : P.pg ≤ pages) (h2 : pages ≤ P.most) (h3 : 0 ≤ no) (h4 : no < pages) {Q : PS} (e1 : Q.most = P.most) (e2 : Q.pg = pages) (e3 : Q.len = max P.len pages) (e4 : Q.rd = fun q => if q = no then b else P.rd q) :
  Agree (S.made pages no b) Q ∧ (S.growE pages = 0 ∧ (S.grow pages).loose.length = S.loose.length ∧ (S.grow pages).writeE no b = 0 ∧ (S.made pages no b).loose.length = (S.grow pages).loose.length + 1) := by
 have hg := ha.grow hS (Q := { P with pg := pages, len := max P.len pages }) h2 rfl rfl rfl
 simp only at hg
 have hw := hg.2.1.write (Q := Q) hb h3 (by have := hg.2.1.pg; simp only at this; omega) e1 e2 e3 e4
 exact ⟨hw.2.1, hg.1, by rw [hg.2.2], hw.1, hw.2.2.1⟩
/-- the tail of New: the list and the number of pages told, the page new -/
theorem new_tail (h : Cr w p d g mp S P X m nn FD A B C a b c) {l : Fs} {K : Option Addr} {ck : Nat} (hr : RowP w (Out p g mp FD X) K (fr l)) (hc : l.length ≤ ck) (pages _no : Int) :
  At (((w.setCell ⟨p, 9, none⟩ (.slice K l.length ck))).setCell ⟨p, 2, none⟩ (.int .i64 pages)) p 59 (pcs { P with fl := l, pg := pages } d g mp A B K a b ck) ∧
  Cr ((w.setCell ⟨p, 9, none⟩ (.slice K l.length ck)).setCell ⟨p, 2, none⟩ (.int .i64 pages)) p d g mp S { P with fl := l, pg := pages } X m nn FD A B K a b ck ∧ Turn (Not X) w ((w.setCell ⟨p, 9, none⟩ (.slice K l.length ck)).setCell ⟨p, 2, none⟩ (.int .i64 pages)) := by
 obtain ⟨h1, t1⟩ := h.setFl l hr hc
 obtain ⟨h2, t2⟩ := h1.setPg pages
 exact ⟨h2.st, h2, (h.notX t1).step (h1.notX t2)⟩
set_option maxRecDepth 100000 in
set_option maxHeartbeats 6400000 in
theorem new_any (h : Cr W p d g mp S P X m nn FD A B C a b c) (ha : Agree S P) (hf : Fine P m) (kind link : Int) (K : Option Addr) (ck : Nat) (cells : List ByteArray) (hfc : FewC cells) (hr : RowP W X K (strs cells)) :
  Calls Tryz.prog 27 #[.pointer (some ⟨p, 0, none⟩), .int .i64 kind, .int .i64 link, .slice K cells.length ck] W fun e w' =>
   e = .returned (.tuple #[.int .i64 (P.new kind link cells).2.1, .int .i64 (P.new kind link cells).2.2]) ∧ (∃ S', Cw w' p d g mp S' (P.new kind link cells).1 X (m + 4000) ∧ Agree S' (P.new kind link cells).1) ∧ Turn (Not X) W w' := by
 have hi := hf.inv
 have i1 := hi.len
 have i2 := hi.most
 have i3 := hf.few
 have i4 := hi.xg
 have i5 := hi.xp
 have i6 := hi.ep
 have i7 := hf.ep
 have i8 := hf.m1
 have i9 := few_free hi
 have hS := h.dk.ok
 have hfc2 : cells.length ≤ 1000 ∧ ∀ q ∈ cells, q.size ≤ 1000 := ⟨by have := hfc.1; omega, fun q hq => by have := hfc.2 q hq; omega⟩
 have hnx := next_any h (by omega) (by omega) (by omega)
 have HNEW := Lib.hid (show P.new kind link cells = if err (P.of kind link cells 0) ≠ 0 then (P, 0, err (P.of kind link cells 0)) else match P.take with
  | none => (P, 0, 82)
  | some (Q, no) => (Q.put (P.of kind link cells no), no, 0) from rfl)
 have HTAKE := Lib.hid (show P.take = match first P.od P.fl with
  | (some no, l) => some ({ P with fl := l, nw := P.nw ++ [no] }, no)
  | (none, _) => if P.pg + 1 > P.most then none else some ({ P with len := max P.len (P.pg + 1), pg := P.pg + 1, nw := P.nw ++ [P.pg] }, P.pg) from rfl)
 go_enter Tryz.func27, Tryz.ntmps27
 go_wp2_with fail
 (with_reducible refine hnx.mono ?_)
 clear hnx
 rintro e w1 ⟨b1, hcase⟩
 have h1 := h.more b1
 have hr1 : RowP w1 (Plus X W w1) K (strs cells) := (hr.below b1).wide fun _ q => Or.inl q
 have T1 := Lib.hid (show ∀ w', Turn (Not (Plus X W w1)) w1 w' → Turn (Not X) W w' from fun w' t => turn_plus_ b1 t)
 have HXL := Lib.hid (show ∀ i, W.heap.size ≤ i → ¬ X i from fun i hi z => by have := h.xl i z; omega)
 rcases hcase with ⟨no, l, A', c', hff, rfl, hc', hrl⟩ | ⟨hff, rfl⟩
 ·have hno : 2 ≤ no ∧ no < P.pg := by
   obtain ⟨e, _, hp⟩ := first_perm hff
   have := hi.fr (no, e) (hp.mem_iff.2 (by simp))
   simp only at this
   omega
  have herr := err_no (P := P) (kind := kind) (link := link) (cells := cells) (no := no) (by omega) (by omega)
  rw [hff] at HTAKE
  have HT2 := Lib.hid HTAKE.out
  have hrl1 : RowP w1 (fun i => Plus X W w1 i ∧ ¬ X i) A' (fr l) := fun k v hv => by
   obtain ⟨ad, e1, e2, e3, e4⟩ := hrl k v hv
   exact ⟨ad, e1, ⟨Or.inr ⟨e2, e3⟩, HXL.out _ e2⟩, e3, e4⟩
  by_cases hz : err (P.of kind link cells 0) = 0
  ·obtain ⟨hag, hgw⟩ := made_agree ha hS (page_256 (by rw [herr]; exact hz)) (Int.le_refl P.pg) (by omega) (by omega) hno.2 (Q := ({ P with fl := l, nw := P.nw ++ [no] } : PS).put (P.of kind link cells no)) rfl rfl (by show P.len = _; omega) rfl
   have hcall := write_good h1 (by omega) (by omega) (by omega) no P.pg kind link K ck cells hfc2 hr1 (by rw [herr]; exact hz) ⟨hgw.1, hgw.2.1, hgw.2.2.1, page_256 (by rw [herr]; exact hz), hgw.2.2.2⟩
   have HEND := Lib.hid (show P.new kind link cells = (({ P with fl := l, nw := P.nw ++ [no] } : PS).put (P.of kind link cells no), no, 0) by
    rw [HNEW.out, if_neg (fun z => z hz), HT2.out])
   have HAG := Lib.hid hag
   have hkey := keyI (show In no by unfold In; omega)
   clear h h1 hr hr1 hff hag hgw herr hz HNEW HTAKE HT2 hrl ha hS hfc2 i1 i2 i4 i9 b1
   go_wp2_with fail
   (with_reducible refine hcall.mono ?_)
   clear hcall
   rintro e w2 ⟨rfl, ⟨FD2, h2⟩, t2⟩
   have hrow : RowP w2 (Out p g mp FD2 X) A' (fr l) := h2.lessRow (hrl1.turn t2 fun _ q z => z q.1)
   have h3 : Cr w2 p d g mp _ P X (m + 2000) nn FD2 A B C a b c := h2.less fun _ q => Or.inl q
   have hcl := hc'
   have T2 := Lib.hid (T1.out _ t2)
   clear h2 t2 hrl1 hc' T1
   obtain ⟨_, hcr, htu⟩ := new_tail h3 hrow hcl (P.pg) (no)
   obtain ⟨w4, hw4⟩ : ∃ v, v = (w2.setCell ⟨p, 9, none⟩ (.slice A' (l).length c')).setCell ⟨p, 2, none⟩ (.int .i64 (P.pg)) := ⟨_, rfl⟩
   rw [← hw4] at hcr htu
   have HW4 := Lib.hid hw4
   clear hw4
   have T4 := Lib.hid (T2.out.step htu)
   obtain ⟨⟨_, _, g2⟩, _, _, _, g9, _⟩ := pgc h3.st
   have f9 := h3.st.frozen 9
   have f2 := h3.st.frozen 2
   obtain ⟨_, _, _, _, _, g10, _⟩ := pgc hcr.st
   obtain ⟨D, hom, hD⟩ := hcr.ms
   have HCR := Lib.hid hcr
   have HD := Lib.hid hD
   have hnn := hcr.nn
   clear hrow hcl hcr htu h3 hD T2
   go_upto_region 6 with fail
   try rw [← HW4.out]
   clear g2 g9 f9 f2 HW4
   go_wp2_with (at_mapUpdate; refine wpList_mapUpdate_in _ rfl _ _ _ 57 rfl 3 103 lawI Tryz.underlying57 _ mp nn D rfl hom (by unfold maxLen; omega) _ _ _ rfl rfl hkey (.agg []) [] unitElem_mk ?_; intro w5 hown5 hturn5)
   go_ret2
   have t5 : Turn (fun i => i = mp) w4 w5 := Turn.ofGrown hturn5.grown fun k e _ => by injection e with e; exact e.symm
   have h5 := (HCR.out.up (show m + 2000 ≤ m + 4000 by omega)).reset t5 _ (set_put hown5 hom.isMap HD.out) (by push_cast; omega)
   refine ⟨by rw [HEND.out]; rfl, ⟨_, ⟨_, _, _, _, _, _, _, _, by rw [HEND.out]; exact h5.as rfl rfl rfl rfl rfl rfl rfl⟩, by rw [HEND.out]; exact HAG.out⟩, T4.out.step (t5.mono fun i _ e => by rw [show i = mp from e]; exact HCR.out.xm)⟩
  ·have hcall := write_bad h1 (by omega) (by omega) (by omega) (no) (P.pg) kind link K ck cells hfc2 hr1 (by rw [herr]; exact hz)
   rw [herr] at hcall
   have HEND := Lib.hid (show P.new kind link cells = (P, 0, err (P.of kind link cells 0)) by rw [HNEW.out, if_pos hz])
   have hne : (err (P.of kind link cells 0) != 0) = true := by simpa using hz
   have HAG := Lib.hid ha
   generalize err (P.of kind link cells 0) = er at *
   clear h h1 hr hr1 hff herr hz HNEW HTAKE ha hS hfc2 i1 i2 i4 i9 b1
   go_wp2_with fail
   (with_reducible refine hcall.mono ?_)
   clear hcall
   rintro e w2 ⟨rfl, h2, t2⟩
   have H3 := Lib.hid ((h2.less fun _ q => Or.inl q : Cr w2 p d g mp _ P X (m + 1000) nn _ A B C a b c).up (show m + 1000 ≤ m + 4000 by omega))
   have T2 := Lib.hid (T1.out _ t2)
   clear h2 t2 T1
   go_wp2_with fail
   go_ret2
   exact ⟨by rw [HEND.out]; rfl, ⟨_, ⟨_, _, _, _, _, _, _, _, by rw [HEND.out]; exact H3.out⟩, by rw [HEND.out]; exact HAG.out⟩, T2.out⟩
 ·have herr := err_no (P := P) (kind := kind) (link := link) (cells := cells) (no := P.pg) (by omega) (by omega)
  have HT3 := Lib.hid (show P.take = if P.pg + 1 > P.most then none else some ({ P with len := max P.len (P.pg + 1), pg := P.pg + 1, nw := P.nw ++ [P.pg] }, P.pg) by
   rw [HTAKE.out]
   generalize first P.od P.fl = fo at hff
   obtain ⟨o, l⟩ := fo
   simp only at hff
   subst hff
   rfl)
  by_cases hz : err (P.of kind link cells 0) = 0
  ·by_cases hmst : P.pg + 1 ≤ P.most
   ·obtain ⟨hag, hgw⟩ := made_agree ha hS (page_256 (by rw [herr]; exact hz)) (show P.pg ≤ P.pg + 1 by omega) (by omega) (by omega) (show P.pg < P.pg + 1 by omega) (Q := ({ P with len := max P.len (P.pg + 1), pg := P.pg + 1, nw := P.nw ++ [P.pg] } : PS).put (P.of kind link cells P.pg)) rfl rfl rfl rfl
    have hcall := write_good h1 (by omega) (by omega) (by omega) P.pg (P.pg + 1) kind link K ck cells hfc2 hr1 (by rw [herr]; exact hz) ⟨hgw.1, hgw.2.1, hgw.2.2.1, page_256 (by rw [herr]; exact hz), hgw.2.2.2⟩
    have HEND := Lib.hid (show P.new kind link cells = (({ P with len := max P.len (P.pg + 1), pg := P.pg + 1, nw := P.nw ++ [P.pg] } : PS).put (P.of kind link cells P.pg), P.pg, 0) by
     rw [HNEW.out, if_neg (fun z => z hz), HT3.out, if_neg (show ¬ P.pg + 1 > P.most by omega)])
    have HAG := Lib.hid hag
    have hkey := keyI (show In P.pg by unfold In; omega)
    clear h h1 hr hr1 hff hag hgw herr hz HNEW HTAKE HT3 ha hS hfc2 i1 i2 i4 i9 b1
    go_wp2_with fail
    (with_reducible refine hcall.mono ?_)
    clear hcall
    rintro e w2 ⟨rfl, ⟨FD2, h2⟩, t2⟩
    have h3 : Cr w2 p d g mp _ P X (m + 2000) nn FD2 A B C a b c := h2.less fun _ q => Or.inl q
    have hrow := h3.rc
    have hcl := h3.lc
    have T2 := Lib.hid (T1.out _ t2)
    clear h2 t2 T1
    obtain ⟨_, hcr, htu⟩ := new_tail h3 hrow hcl (P.pg + 1) (P.pg)
    obtain ⟨w4, hw4⟩ : ∃ v, v = (w2.setCell ⟨p, 9, none⟩ (.slice C (P.fl).length c)).setCell ⟨p, 2, none⟩ (.int .i64 (P.pg + 1)) := ⟨_, rfl⟩
    rw [← hw4] at hcr htu
    have HW4 := Lib.hid hw4
    clear hw4
    have T4 := Lib.hid (T2.out.step htu)
    obtain ⟨⟨_, _, g2⟩, _, _, _, g9, _⟩ := pgc h3.st
    have f9 := h3.st.frozen 9
    have f2 := h3.st.frozen 2
    obtain ⟨_, _, _, _, _, g10, _⟩ := pgc hcr.st
    obtain ⟨D, hom, hD⟩ := hcr.ms
    have HCR := Lib.hid hcr
    have HD := Lib.hid hD
    have hnn := hcr.nn
    clear hrow hcl hcr htu h3 hD T2
    go_upto_region 6 with fail
    try rw [← HW4.out]
    clear g2 g9 f9 f2 HW4
    go_wp2_with (at_mapUpdate; refine wpList_mapUpdate_in _ rfl _ _ _ 57 rfl 3 103 lawI Tryz.underlying57 _ mp nn D rfl hom (by unfold maxLen; omega) _ _ _ rfl rfl hkey (.agg []) [] unitElem_mk ?_; intro w5 hown5 hturn5)
    go_ret2
    have t5 : Turn (fun i => i = mp) w4 w5 := Turn.ofGrown hturn5.grown fun k e _ => by injection e with e; exact e.symm
    have h5 := (HCR.out.up (show m + 2000 ≤ m + 4000 by omega)).reset t5 _ (set_put hown5 hom.isMap HD.out) (by push_cast; omega)
    refine ⟨by rw [HEND.out]; rfl, ⟨_, ⟨_, _, _, _, _, _, _, _, by rw [HEND.out]; exact h5.as rfl rfl rfl rfl rfl rfl rfl⟩, by rw [HEND.out]; exact HAG.out⟩, T4.out.step (t5.mono fun i _ e => by rw [show i = mp from e]; exact HCR.out.xm)⟩
   ·have hcall := write_full h1 (by omega) (by omega) (by omega) P.pg (P.pg + 1) kind link K ck cells hfc2 hr1 (by rw [herr]; exact hz) (by rw [ha.most]; omega)
    have HEND := Lib.hid (show P.new kind link cells = (P, 0, 82) by rw [HNEW.out, if_neg (fun z => z hz), HT3.out, if_pos (show P.pg + 1 > P.most by omega)])
    have HAG := Lib.hid ha
    clear h h1 hr hr1 hff herr hz HNEW HTAKE HT3 ha hS hfc2 i1 i2 i4 i9 b1
    go_wp2_with fail
    (with_reducible refine hcall.mono ?_)
    clear hcall
    rintro e w2 ⟨rfl, ⟨FD2, h2⟩, t2⟩
    have H3 := Lib.hid ((h2.less fun _ q => Or.inl q : Cr w2 p d g mp _ P X (m + 1000) nn FD2 A B C a b c).up (show m + 1000 ≤ m + 4000 by omega))
    have T2 := Lib.hid (T1.out _ t2)
    clear h2 t2 T1
    go_wp2_with fail
    go_ret2
    exact ⟨by rw [HEND.out]; rfl, ⟨_, ⟨_, _, _, _, _, _, _, _, by rw [HEND.out]; exact H3.out⟩, by rw [HEND.out]; exact HAG.out⟩, T2.out⟩
  ·have hcall := write_bad h1 (by omega) (by omega) (by omega) (P.pg) (P.pg + 1) kind link K ck cells hfc2 hr1 (by rw [herr]; exact hz)
   rw [herr] at hcall
   have HEND := Lib.hid (show P.new kind link cells = (P, 0, err (P.of kind link cells 0)) by rw [HNEW.out, if_pos hz])
   have hne : (err (P.of kind link cells 0) != 0) = true := by simpa using hz
   have HAG := Lib.hid ha
   generalize err (P.of kind link cells 0) = er at *
   clear h h1 hr hr1 hff herr hz HNEW HTAKE ha hS hfc2 i1 i2 i4 i9 b1
   go_wp2_with fail
   (with_reducible refine hcall.mono ?_)
   clear hcall
   rintro e w2 ⟨rfl, h2, t2⟩
   have H3 := Lib.hid ((h2.less fun _ q => Or.inl q : Cr w2 p d g mp _ P X (m + 1000) nn _ A B C a b c).up (show m + 1000 ≤ m + 4000 by omega))
   have T2 := Lib.hid (T1.out _ t2)
   clear h2 t2 T1
   go_wp2_with fail
   go_ret2
   exact ⟨by rw [HEND.out]; rfl, ⟨_, ⟨_, _, _, _, _, _, _, _, by rw [HEND.out]; exact H3.out⟩, by rw [HEND.out]; exact HAG.out⟩, T2.out⟩
end
end Go.Proofs.YtpidnkfcccboaaaGreat.PagerCode
namespace Go.Proofs.YtpidnkfcccboaaaGreat.PagerCode
open Go.RowKit Base PagePlain PageSmall FreePlain FreeMem SuperPlain SuperRefCheck PagerPlain PagerTold PagerNum PagerSpec SumOf DiskPlain DiskMem DiskSmall PagerMem PagerDisk Go.Maps

section
variable {W w w' : World} {p d g mp : Nat} {S : DS} {P P' : PS} {X Y G : Blks} {m m' : Int} {nn : Nat} {FD : Blks} {A B C : Option Addr} {a b c : Nat}
theorem _root_.Go.Proofs.YtpidnkfcccboaaaGreat.PagerMem.Agree.go (h : Agree S P) (no : Int) : Agree S (P.go no) := by
 unfold PS.go
 split
 ·exact h.of rfl rfl rfl rfl
 ·exact h.of rfl rfl rfl rfl
set_option maxRecDepth 100000 in
set_option maxHeartbeats 6400000 in
theorem change_any (h : Cr W p d g mp S P X m nn FD A B C a b c) (ha : Agree S P) (hf : Fine P m) (no kind link : Int) (hn : In no) (K : Option Addr) (ck : Nat) (cells : List ByteArray) (hfc : FewC cells) (hr : RowP W X K (strs cells)) :
  Calls Tryz.prog 30 #[.pointer (some ⟨p, 0, none⟩), .int .i64 no, .int .i64 kind, .int .i64 link, .slice K cells.length ck] W fun e w' =>
   e = .returned (.tuple #[.int .i64 (P.change no kind link cells).2.1, .int .i64 (P.change no kind link cells).2.2]) ∧ (∃ S', Cw w' p d g mp S' (P.change no kind link cells).1 X (m + 5000) ∧ Agree S' (P.change no kind link cells).1) ∧ Turn (Not X) W w' := by
 have hi := hf.inv
 have i1 := hi.len
 have i2 := hi.most
 have i3 := hf.few
 have i4 := hi.xg
 have i5 := hi.xp
 have i6 := hi.ep
 have i7 := hf.ep
 have i8 := hf.m1
 have i9 := few_free hi
 have hS := h.dk.ok
 have hfc2 : cells.length ≤ 1000 ∧ ∀ q ∈ cells, q.size ≤ 1000 := ⟨by have := hfc.1; omega, fun q hq => by have := hfc.2 q hq; omega⟩
 have hiu := inUse_any h hi.rise (by omega) no
 have HCH := Lib.hid (show P.change no kind link cells = if P.there no then
  if no ∈ P.nw then if err (P.of kind link cells no) ≠ 0 then (P, 0, err (P.of kind link cells no)) else (P.put (P.of kind link cells no), no, 0)
  else match P.new kind link cells with
   | (Q, n, e) => if e ≠ 0 then (Q, 0, e) else ((Q.drop no).1, n, 0)
  else (P, 0, 81) from rfl)
 have HB := Lib.hid (fun (w1 : World) (b1 : Below W.heap.size W w1) => h.below b1)
 have HBR := Lib.hid (fun (w1 : World) (b1 : Below W.heap.size W w1) => hr.below b1)
 have HAG := Lib.hid ha
 by_cases ht : P.there no
 rotate_left
 ·have HEND := Lib.hid (show P.change no kind link cells = (P, 0, 81) by rw [HCH.out, if_neg ht])
  rw [decide_eq_false ht] at hiu
  clear h ha hi hS i1 i2 i4 i9 hr HCH ht
  go_enter Tryz.func30, Tryz.ntmps30
  go_wp2_with fail
  (with_reducible refine hiu.mono ?_)
  clear hiu
  rintro e w1 ⟨rfl, b1⟩
  have H1 := Lib.hid ((HB.out _ b1).up (show m ≤ m + 5000 by omega))
  have T1 := Lib.hid (show Turn (Not X) W w1 from Turn.ofBelow b1)
  clear b1
  go_wp2_with fail
  go_ret2
  exact ⟨by rw [HEND.out]; rfl, ⟨_, ⟨_, _, _, _, _, _, _, _, by rw [HEND.out]; exact H1.out⟩, by rw [HEND.out]; exact HAG.out⟩, T1.out⟩
 rw [decide_eq_true ht] at hiu
 by_cases hin : no ∈ P.nw
 ·have hno := hi.nr no hin
  by_cases hz : err (P.of kind link cells no) = 0
  ·have HEND := Lib.hid (show P.change no kind link cells = (P.put (P.of kind link cells no), no, 0) by rw [HCH.out, if_pos ht, if_pos hin, if_neg (fun z => z hz)])
   obtain ⟨hag, hgw⟩ := made_agree ha hS (page_256 hz) (Int.le_refl P.pg) (by omega) (by omega) hno.2.1 (Q := P.put (P.of kind link cells no)) rfl rfl (by show P.len = _; omega) rfl
   have HC := Lib.hid (fun (w1 : World) (h1 : Cr w1 p d g mp S P X m nn FD A B C a b c) (r1 : RowP w1 X K (strs cells)) => write_good h1 (by omega) (by omega) (by omega) no P.pg kind link K ck cells hfc2 r1 hz ⟨hgw.1, hgw.2.1, hgw.2.2.1, page_256 hz, hgw.2.2.2⟩)
   have HN := Lib.hid (fun (w1 : World) (h1 : Cr w1 p d g mp S P X m nn FD A B C a b c) => (pgc h1.st).2.2.2.2.2.1)
   have HAG2 := Lib.hid hag
   have HIN := Lib.hid hin
   clear h ha hi hS i1 i2 i4 i9 hr HCH ht hno hin hag hgw hz
   go_enter Tryz.func30, Tryz.ntmps30
   go_wp2_with fail
   (with_reducible refine hiu.mono ?_)
   clear hiu
   rintro e w1 ⟨rfl, b1⟩
   have h1 := HB.out _ b1
   have hcall := isNew_any w1 p mp nn P.nw no (HN.out _ h1) h1.ms hn
   rw [decide_eq_true HIN.out] at hcall
   have B1 := Lib.hid b1
   clear h1 b1
   go_wp2_with fail
   (with_reducible refine hcall.mono ?_)
   clear hcall
   rintro e w2 ⟨rfl, b2⟩
   have b3 := Below.step B1.out b2
   have h3 := HB.out _ b3
   have hcall := HC.out _ h3 (HBR.out _ b3)
   have g2 := (pgc h3.st).1.2.2
   have T3 := Lib.hid (show Turn (Not X) W w2 from Turn.ofBelow b3)
   clear b3 h3 b2
   go_wp2_with fail
   (with_reducible refine hcall.mono ?_)
   clear hcall
   rintro e w4 ⟨rfl, ⟨FD2, h4⟩, t4⟩
   have H4 := Lib.hid (h4.up (show m + 2000 ≤ m + 5000 by omega))
   have T4 := Lib.hid (T3.out.step t4)
   clear h4 t4 g2
   go_wp2_with fail
   go_ret2
   exact ⟨by rw [HEND.out]; rfl, ⟨_, ⟨_, _, _, _, _, _, _, _, by rw [HEND.out]; exact H4.out.as rfl rfl rfl rfl rfl rfl rfl⟩, by rw [HEND.out]; exact HAG2.out⟩, T4.out⟩
  ·have HEND := Lib.hid (show P.change no kind link cells = (P, 0, err (P.of kind link cells no)) by rw [HCH.out, if_pos ht, if_pos hin, if_pos hz])
   have HC := Lib.hid (fun (w1 : World) (h1 : Cr w1 p d g mp S P X m nn FD A B C a b c) (r1 : RowP w1 X K (strs cells)) => write_bad h1 (by omega) (by omega) (by omega) no P.pg kind link K ck cells hfc2 r1 hz)
   have HN := Lib.hid (fun (w1 : World) (h1 : Cr w1 p d g mp S P X m nn FD A B C a b c) => (pgc h1.st).2.2.2.2.2.1)
   have HIN := Lib.hid hin
   have hne : (err (P.of kind link cells no) != 0) = true := by simpa using hz
   generalize err (P.of kind link cells no) = er at *
   clear h ha hi hS i1 i2 i4 i9 hr HCH ht hno hin hz
   go_enter Tryz.func30, Tryz.ntmps30
   go_wp2_with fail
   (with_reducible refine hiu.mono ?_)
   clear hiu
   rintro e w1 ⟨rfl, b1⟩
   have h1 := HB.out _ b1
   have hcall := isNew_any w1 p mp nn P.nw no (HN.out _ h1) h1.ms hn
   rw [decide_eq_true HIN.out] at hcall
   have B1 := Lib.hid b1
   clear h1 b1
   go_wp2_with fail
   (with_reducible refine hcall.mono ?_)
   clear hcall
   rintro e w2 ⟨rfl, b2⟩
   have b3 := Below.step B1.out b2
   have h3 := HB.out _ b3
   have hcall := HC.out _ h3 (HBR.out _ b3)
   have g2 := (pgc h3.st).1.2.2
   have T3 := Lib.hid (show Turn (Not X) W w2 from Turn.ofBelow b3)
   clear b3 h3 b2
   go_wp2_with fail
   (with_reducible refine hcall.mono ?_)
   clear hcall
   rintro e w4 ⟨rfl, h4, t4⟩
   have H4 := Lib.hid (h4.up (show m + 1000 ≤ m + 5000 by omega))
   have T4 := Lib.hid (T3.out.step t4)
   clear h4 t4 g2
   go_wp2_with fail
   go_ret2
   exact ⟨by rw [HEND.out]; rfl, ⟨_, ⟨_, _, _, _, _, _, _, _, by rw [HEND.out]; exact H4.out⟩, by rw [HEND.out]; exact HAG.out⟩, T4.out⟩
 ·have HC := Lib.hid (fun (w1 : World) (h1 : Cr w1 p d g mp S P X m nn FD A B C a b c) (r1 : RowP w1 X K (strs cells)) => new_any h1 ha hf kind link K ck cells hfc r1)
  have HN := Lib.hid (fun (w1 : World) (h1 : Cr w1 p d g mp S P X m nn FD A B C a b c) => (pgc h1.st).2.2.2.2.2.1)
  have HIN := Lib.hid hin
  have hinv := hi.new kind link cells
  rcases new_cases P kind link cells with ⟨er, he, hR⟩ | ⟨Q, n2, htk, _, hR⟩
  ·have HEND := Lib.hid (show P.change no kind link cells = (P, 0, er) by rw [HCH.out, if_pos ht, if_neg hin, hR]; exact if_pos he)
   have HR := Lib.hid hR
   have hne : (er != 0) = true := by simpa using he
   clear h ha hi hS i1 i2 i4 i9 hr HCH ht hin hR hinv he
   go_enter Tryz.func30, Tryz.ntmps30
   go_wp2_with fail
   (with_reducible refine hiu.mono ?_)
   clear hiu
   rintro e w1 ⟨rfl, b1⟩
   have h1 := HB.out _ b1
   have hcall := isNew_any w1 p mp nn P.nw no (HN.out _ h1) h1.ms hn
   rw [decide_eq_false HIN.out] at hcall
   have B1 := Lib.hid b1
   clear h1 b1
   go_wp2_with fail
   (with_reducible refine hcall.mono ?_)
   clear hcall
   rintro e w2 ⟨rfl, b2⟩
   have b3 := Below.step B1.out b2
   have hcall := HC.out _ (HB.out _ b3) (HBR.out _ b3)
   rw [HR.out] at hcall
   have T3 := Lib.hid (show Turn (Not X) W w2 from Turn.ofBelow b3)
   clear b3 b2
   go_wp2_with fail
   (with_reducible refine hcall.mono ?_)
   clear hcall
   rintro e w4 ⟨rfl, ⟨S4, ⟨_, _, _, _, _, _, _, _, h4⟩, ag4⟩, t4⟩
   have H4 := Lib.hid (h4.up (show m + 4000 ≤ m + 5000 by omega))
   have T4 := Lib.hid (T3.out.step t4)
   have AG4 := Lib.hid ag4
   clear h4 t4 ag4
   go_wp2_with fail
   go_ret2
   exact ⟨by rw [HEND.out]; rfl, ⟨_, ⟨_, _, _, _, _, _, _, _, by rw [HEND.out]; exact H4.out⟩, by rw [HEND.out]; exact AG4.out⟩, T4.out⟩
  ·have htt : (Q.put (P.of kind link cells n2)).there no := show Q.there no from PagerCov.there_take (take_some hi htk) hi ht
   have HEND := Lib.hid (show P.change no kind link cells = ((Q.put (P.of kind link cells n2)).go no, n2, 0) by
    rw [HCH.out, if_pos ht, if_neg hin, hR]
    show (if (0 : Int) ≠ 0 then _ else _) = _
    rw [if_neg (by omega), drop_go, if_pos htt])
   have hx2 : (Q.put (P.of kind link cells n2)).x = P.x := show Q.x = P.x from (take_some hi htk).kept.x
   rw [hR] at hinv
   have hinv2 : Inv (Q.put (P.of kind link cells n2)) := hinv
   have hmost : (Q.put (P.of kind link cells n2)).most = P.most := show Q.most = P.most from (take_some hi htk).kept.most
   have j1 := few_free hinv2
   have j2 := hinv2.len
   have j3 := hinv2.most
   have HR := Lib.hid hR
   have HJ := Lib.hid (show Rise (Q.put (P.of kind link cells n2)).fl ∧ (Q.put (P.of kind link cells n2)).fl.length ≤ 1000 ∧ 0 ≤ (Q.put (P.of kind link cells n2)).x.ep ∧ (Q.put (P.of kind link cells n2)).x.ep ≤ 4294967295 from ⟨hinv2.rise, by omega, by rw [hx2]; omega, by rw [hx2]; omega⟩)
   clear h ha hi hS i1 i2 i4 i9 hr HCH ht hin hR hinv hinv2 htt hx2 hmost j1 j2 j3 htk
   generalize Q.put (P.of kind link cells n2) = Q2 at *
   go_enter Tryz.func30, Tryz.ntmps30
   go_wp2_with fail
   (with_reducible refine hiu.mono ?_)
   clear hiu
   rintro e w1 ⟨rfl, b1⟩
   have h1 := HB.out _ b1
   have hcall := isNew_any w1 p mp nn P.nw no (HN.out _ h1) h1.ms hn
   rw [decide_eq_false HIN.out] at hcall
   have B1 := Lib.hid b1
   clear h1 b1
   go_wp2_with fail
   (with_reducible refine hcall.mono ?_)
   clear hcall
   rintro e w2 ⟨rfl, b2⟩
   have b3 := Below.step B1.out b2
   have hcall := HC.out _ (HB.out _ b3) (HBR.out _ b3)
   rw [HR.out] at hcall
   have T3 := Lib.hid (show Turn (Not X) W w2 from Turn.ofBelow b3)
   clear b3 b2
   go_wp2_with fail
   (with_reducible refine hcall.mono ?_)
   clear hcall
   rintro e w4 ⟨rfl, ⟨S4, ⟨_, _, _, _, _, _, _, _, h4⟩, ag4⟩, t4⟩
   have hcall := letGo_any h4 HJ.out.1 HJ.out.2.1 HJ.out.2.2.1 HJ.out.2.2.2 no hn
   have T4 := Lib.hid (T3.out.step t4)
   have AG4 := Lib.hid ag4
   clear h4 t4 ag4
   go_wp2_with fail
   (with_reducible refine hcall.mono ?_)
   clear hcall
   rintro e w5 ⟨rfl, ⟨C5, c5, h5⟩, t5⟩
   have H5 := Lib.hid (h5.up (show m + 4000 ≤ m + 5000 by omega))
   have T5 := Lib.hid (T4.out.step t5)
   clear h5 t5
   go_wp2_with fail
   go_ret2
   exact ⟨by rw [HEND.out]; rfl, ⟨_, ⟨_, _, _, _, _, _, _, _, by rw [HEND.out]; exact H5.out⟩, by rw [HEND.out]; exact AG4.out.go no⟩, T5.out⟩
end
end Go.Proofs.YtpidnkfcccboaaaGreat.PagerCode
