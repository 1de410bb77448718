/- The contracts of the pager's Drop, Abort, Oldest, Free, Chain. -/
import Derived.Test.YtpidnkfcccboaaaGreatKPagerCode2
import Derived.Test.YtpidnkfcccboaaaGreatKSuperTold
import Derived.Deep.Cut
import Derived.Lib.SlBytesConst
namespace Go.Proofs.YtpidnkfcccboaaaGreat.PagerCode
open Go.RowKit Base PagePlain PageSmall FreePlain FreeMem SuperPlain SuperRefCheck PagerPlain PagerTold PagerNum PagerSpec SumOf DiskPlain DiskMem DiskSmall PagerMem PagerDisk Go.Maps

section
variable {W w w' : World} {p d g mp : Nat} {S : DS} {P P' : PS} {X Y G : Blks} {m m' : Int} {nn : Nat} {FD : Blks} {A B C : Option Addr} {a b c : Nat}
set_option maxRecDepth 100000 in
set_option maxHeartbeats 3200000 in
theorem drop_any (h : Cr W p d g mp S P X m nn FD A B C a b c) (hf : Fine P m) (no : Int) (hn : In no) : Calls Tryz.prog 38 #[.pointer (some ⟨p, 0, none⟩), .int .i64 no] W fun e w' =>
  e = .returned (.int .i64 (P.drop no).2) ∧ (∃ C' c', Cr w' p d g mp S (P.drop no).1 X m nn FD A B C' a b c') ∧ Turn (Not X) W w' := by
 have hi := hf.inv
 have i1 := hi.len
 have i2 := hi.most
 have i3 := hf.few
 have i4 := hi.xg
 have i5 := hi.xp
 have i6 := hi.ep
 have i7 := hf.ep
 have i9 := few_free hi
 have hiu := inUse_any h hi.rise (by omega) no
 by_cases ht : P.there no
 ·have HD := Lib.hid (show P.drop no = (P.go no, 0) by rw [drop_go, if_pos ht])
  have HLG := Lib.hid (fun (w1 : World) (b1 : Below W.heap.size W w1) => letGo_any (h.below b1) hi.rise (by omega) (by omega) (by omega) no hn)
  rw [decide_eq_true ht] at hiu
  clear h hi i1 i2 i4 i9 ht
  go_enter Tryz.func38, Tryz.ntmps38
  go_wp2_with fail
  (with_reducible refine hiu.mono ?_)
  clear hiu
  rintro e w1 ⟨rfl, b1⟩
  have hcall := HLG.out _ b1
  go_wp2_with fail
  (with_reducible refine hcall.mono ?_)
  clear hcall
  rintro e w2 ⟨rfl, h2, t2⟩
  have H2 := Lib.hid h2
  have T2 := Lib.hid ((Turn.ofBelow b1).step t2)
  clear h2 t2 b1
  go_wp2_with fail
  go_ret
  exact ⟨by rw [HD.out]; rfl, by rw [HD.out]; exact H2.out, T2.out⟩
 ·have HD := Lib.hid (show P.drop no = (P, 81) by rw [drop_go, if_neg ht])
  have HB := Lib.hid (fun (w1 : World) (b1 : Below W.heap.size W w1) => h.below b1)
  rw [decide_eq_false ht] at hiu
  clear h hi i1 i2 i4 i9 ht
  go_enter Tryz.func38, Tryz.ntmps38
  go_wp2_with fail
  (with_reducible refine hiu.mono ?_)
  clear hiu
  rintro e w1 ⟨rfl, b1⟩
  have H2 := Lib.hid (HB.out _ b1)
  have T2 := Lib.hid (show Turn (Not X) W w1 from Turn.ofBelow b1)
  clear b1
  go_wp2_with fail
  go_ret
  exact ⟨by rw [HD.out]; rfl, by rw [HD.out]; exact ⟨_, _, H2.out⟩, T2.out⟩
set_option maxRecDepth 100000 in
set_option maxHeartbeats 3200000 in
theorem oldest_any (h : Cr W p d g mp S P X m nn FD A B C a b c) (z : Int) : Calls Tryz.prog 39 #[.pointer (some ⟨p, 0, none⟩), .int .i64 z] W fun e w' =>
  e = .returned (.tuple #[]) ∧ Cr w' p d g mp S { P with od := min z P.x.ep } X m nn FD A B C a b c ∧ Turn (Not X) W w' := by
 obtain ⟨h1, t1⟩ := h.setOd (min z P.x.ep)
 have H1 := Lib.hid h1
 have T1 := Lib.hid (h.notX t1)
 obtain ⟨_, ⟨c3, _⟩, _, _, _, _, c11⟩ := pgc h.st
 have f11 := h.st.frozen 11
 clear h h1 t1
 go_enter Tryz.func39, Tryz.ntmps39
 go_wp2_with fail
 go_end0
 exact ⟨rfl, H1.out, T1.out⟩
/-- what Abort does of itself -/
def _root_.Go.Proofs.YtpidnkfcccboaaaGreat.PagerPlain.PS.back (P : PS) : PS := { P with pg := P.x.pages, fl := P.tf, nw := [] }
set_option maxRecDepth 100000 in
set_option maxHeartbeats 6400000 in
theorem abort_any (h : Cr W p d g mp S P X m nn FD A B C a b c) : Calls Tryz.prog 24 #[.pointer (some ⟨p, 0, none⟩)] W fun e w' =>
  e = .returned (.tuple #[]) ∧ Cr w' p d g mp S P.abort X m 0 FD A B A a b a ∧ Turn (Not X) W w' := by
 obtain ⟨D, hom, hD⟩ := h.ms
 have hm0 : 0 ≤ m := by
  obtain ⟨n, n0, n1, _⟩ := h.su
  omega
 obtain ⟨w1, hrun, hm1, t1, hsz, hot⟩ := run_clear (t := 57) (ty := 0) Tryz.underlying57 hom
 have h1 : Cr w1 p d g mp S { P with nw := [] } X m 0 FD A B C a b c := h.reset t1 [] ⟨_, hm1, fun z => by simp [has]⟩ (by omega)
 obtain ⟨h2, t2⟩ := h1.setFl P.tf h1.ra h1.la
 obtain ⟨h3, t3⟩ := h2.setPg P.x.pages
 have H3 := Lib.hid h3
 have T3 := Lib.hid ((t1.mono fun i _ e => by rw [show i = mp from e]; exact h.xm : Turn (Not X) W w1).step ((h1.notX t2).step (h2.notX t3)))
 obtain ⟨_, _, _, _, _, c10, _⟩ := pgc h.st
 obtain ⟨⟨_, _, d2⟩, ⟨_, _, _, d6⟩, d7, _, d9, _⟩ := pgc h1.st
 have f2 := h1.st.frozen 2
 have f9 := h1.st.frozen 9
 clear h h1 h2 h3 t1 t2 t3 hm1 hsz hot hD hom
 go_enter Tryz.func24, Tryz.ntmps24
 go_upto_region 1 with fail
 go_region
 all_goals
  go_wp2_with fail
  go_end0
  exact ⟨rfl, H3.out.below (Below.refl _ _).drew, T3.out.drew⟩
theorem al_ (w : World) (o : Obj) : Below w.heap.size w (w.alloc o) := (Below.refl _ _).alloc (Nat.le_refl _) _
theorem ints_one (l : List Int) : ∀ u ∈ intsV l, u.oneCell' = true := by
 intro u hu
 obtain ⟨z, _, rfl⟩ := List.mem_map.1 hu
 rfl
theorem el_i : Elem Tryz.prog 32 3 8 := elem_mk (z := .int .i64 0) Tryz.underlying32 (by kernel_rfl) rfl
theorem own_rowP_ {w : World} {base c : Nat} {e : TypeId} {A : Option Addr} {vs : List Value} (h : Own w base e A c vs) : RowP w (fun i => base ≤ i) A vs := fun k v hv => by
 obtain ⟨ad, e1, e2, e3⟩ := h.row k v hv
 subst e1
 exact ⟨ad, rfl, (h.block ad.block rfl).1, e2, e3⟩
set_option maxRecDepth 100000 in
set_option maxHeartbeats 3200000 in
theorem cloneF_any (W : World) (K : Option Addr) (n ck : Nat) (l : Fs) (hn : n = l.length) (hr : Row W W.heap.size K (fr l)) (hl : l.length ≤ 1000) : Calls Tryz.prog 44 #[.slice K n ck] W fun e w' =>
  ∃ A' c', e = .returned (.slice A' l.length c') ∧ Below W.heap.size W w' ∧ RowP w' (fun i => W.heap.size ≤ i) A' (fr l) := by
 cases K with
 | none =>
  have h0 : l = [] := by
   cases l with
   | nil => rfl
   | cons x l => obtain ⟨ad, e, _⟩ := hr.get 0 (by rw [fr_len]; simp); cases e
  subst h0
  subst hn
  simp only [List.length_nil]
  have hq := fun w => Lib.run_eql_slice_nil (P := Tryz.prog) w 31 66 none 0 ck 0 0 Tryz.underlying31
  go_enter Tryz.func44, Tryz.ntmps44
  go_wp2_with fail
  go_ret
  exact ⟨none, 0, rfl, Below.refl _ _, RowP.nil⟩
 | some ad =>
  obtain ⟨A', c', w', hrun, ho, hg⟩ := run_append_f (c2 := ck) (OwnF.empty W (Nat.le_refl _)) (n := 0) (m := n) (k := n) rfl hn (by omega) (hr.belowSize (al_ W (.cells #[] 66))) (by omega) (by simp)
  have HB := Lib.hid ((OwnF.empty W (Nat.le_refl _)).below ((Below.refl _ W).alloc (Nat.le_refl _) _) hg (Nat.le_refl _) (by simp))
  have HO := Lib.hid (show RowP w' (fun i => W.heap.size ≤ i) A' (fr l) from ownF_rowP ho)
  have HN := Lib.hid hn
  clear ho hg hr hn
  have hq := fun w => Lib.run_eql_slice_nil (P := Tryz.prog) w 31 66 (some ad) n ck 0 0 Tryz.underlying31
  go_enter Tryz.func44, Tryz.ntmps44
  go_wp2_with (at_builtin; refine wpList_append_run rfl (.tmp 5) (.tmp 6) 31 31 rfl rfl rfl hrun ?_)
  go_ret
  exact ⟨A', c', by rw [← HN.out]; rfl, HB.out, HO.out⟩
set_option maxRecDepth 100000 in
set_option maxHeartbeats 3200000 in
theorem cloneI_any (W : World) (K : Option Addr) (n ck : Nat) (l : List Int) (hn : n = l.length) (hr : Row W W.heap.size K (intsV l)) (hl : l.length ≤ 1000) : Calls Tryz.prog 45 #[.slice K n ck] W fun e w' =>
  ∃ A' c', e = .returned (.slice A' l.length c') ∧ Below W.heap.size W w' ∧ RowP w' (fun i => W.heap.size ≤ i) A' (intsV l) := by
 cases K with
 | none =>
  have h0 : l = [] := by
   cases l with
   | nil => rfl
   | cons x l => obtain ⟨ad, e, _⟩ := hr.get 0 (by simp [intsV]); cases e
  subst h0
  subst hn
  simp only [List.length_nil]
  have hq := fun w => Lib.run_eql_slice_nil (P := Tryz.prog) w 32 3 none 0 ck 0 0 Tryz.underlying32
  go_enter Tryz.func45, Tryz.ntmps45
  go_wp2_with fail
  go_ret
  exact ⟨none, 0, rfl, Below.refl _ _, RowP.nil⟩
 | some ad =>
  have hlen : (intsV l).length = n := by simp [intsV, hn]
  obtain ⟨A', c', w', hrun, ho, hg⟩ := run_append_row (P := Tryz.prog) 32 el_i (c2 := ck) (Own.empty W 3 (Nat.le_refl _)) (hr.belowSize (al_ W (.cells #[] 3))) (ints_one l) (by rw [hlen]; simp [maxLen]; omega) (by rw [hlen]; simp; omega) (by simp)
  have HC := Lib.hid (copy_step ho hg)
  rw [hlen] at hrun
  have HN := Lib.hid hn
  have e0 : ([] : List Value).length + n = n := by simp
  rw [e0] at hrun
  clear ho hg hr hn hlen e0
  have hq := fun w => Lib.run_eql_slice_nil (P := Tryz.prog) w 32 3 (some ad) n ck 0 0 Tryz.underlying32
  go_enter Tryz.func45, Tryz.ntmps45
  go_wp2_with (at_builtin; refine wpList_append_run rfl (.tmp 5) (.tmp 6) 32 32 rfl rfl rfl hrun ?_)
  go_ret
  exact ⟨A', c', by rw [← HN.out]; rfl, HC.out.2.1, own_rowP_ HC.out.2.2⟩
set_option maxRecDepth 100000 in
theorem free_any (h : Cr W p d g mp S P X m nn FD A B C a b c) (hl : P.fl.length ≤ 1000) : Calls Tryz.prog 18 #[.pointer (some ⟨p, 0, none⟩)] W fun e w' =>
  ∃ A' c', e = .returned (.slice A' P.fl.length c') ∧ Below W.heap.size W w' ∧ RowP w' (fun i => W.heap.size ≤ i) A' (fr P.fl) := by
 obtain ⟨_, _, _, _, c9, _⟩ := pgc h.st
 have hcall := cloneF_any W C P.fl.length c P.fl rfl h.rc.row hl
 clear h hl
 go_enter Tryz.func18, Tryz.ntmps18
 go_wp2_with fail
 (with_reducible refine hcall.mono ?_)
 clear hcall
 rintro e w1 ⟨A', c', rfl, b1, r1⟩
 go_wp2_with fail
 go_ret
 exact ⟨A', c', rfl, b1, r1⟩
set_option maxRecDepth 100000 in
theorem chain_any (h : Cr W p d g mp S P X m nn FD A B C a b c) (hl : P.ch.length ≤ 1000) : Calls Tryz.prog 20 #[.pointer (some ⟨p, 0, none⟩)] W fun e w' =>
  ∃ A' c', e = .returned (.slice A' P.ch.length c') ∧ Below W.heap.size W w' ∧ RowP w' (fun i => W.heap.size ≤ i) A' (intsV P.ch) := by
 obtain ⟨_, _, _, c8, _⟩ := pgc h.st
 have hcall := cloneI_any W B P.ch.length b P.ch rfl h.rb.row hl
 clear h hl
 go_enter Tryz.func20, Tryz.ntmps20
 go_wp2_with fail
 (with_reducible refine hcall.mono ?_)
 clear hcall
 rintro e w1 ⟨A', c', rfl, b1, r1⟩
 go_wp2_with fail
 go_ret
 exact ⟨A', c', rfl, b1, r1⟩
set_option maxRecDepth 100000 in
theorem super_any (h : Cr W p d g mp S P X m nn FD A B C a b c) : Calls Tryz.prog 16 #[.pointer (some ⟨p, 0, none⟩)] W fun e w' => e = .returned (sv P.x) ∧ Below W.heap.size W w' := by
 obtain ⟨w1, hw1⟩ : ∃ v, v = W.alloc (.cells #[.int .i64 0, .int .i64 0, .int .i64 0, .int .i64 0] 29) := ⟨_, rfl⟩
 have b1 : Below W.heap.size W w1 := by rw [hw1]; exact al_ _ _
 have z1 : SuperSpec.Bs w1 W.heap.size ⟨0, 0, 0, 0⟩ := by rw [hw1]; exact SuperSpec.bs_new W ⟨0, 0, 0, 0⟩
 obtain ⟨_, ⟨c3, c4, c5, c6⟩, _⟩ := pgc (h.below b1).st
 have k0 : w1.cell? ⟨W.heap.size, 0, none⟩ = some (.int .i64 0) := by rw [At.cell z1]; rfl
 have k1 : w1.cell? ⟨W.heap.size, 1, none⟩ = some (.int .i64 0) := by rw [At.cell z1]; rfl
 have k2 : w1.cell? ⟨W.heap.size, 2, none⟩ = some (.int .i64 0) := by rw [At.cell z1]; rfl
 have k3 : w1.cell? ⟨W.heap.size, 3, none⟩ = some (.int .i64 0) := by rw [At.cell z1]; rfl
 have f0 := At.frozen z1 0
 have f1 := At.frozen z1 1
 have f2 := At.frozen z1 2
 have f3 := At.frozen z1 3
 have HA := Lib.hid (SuperCode.bs_over z1 P.x)
 have HB := Lib.hid ((((b1.setCell (p := ⟨W.heap.size, 0, none⟩) (Nat.le_refl _) (.int .i64 P.x.ep)).setCell (p := ⟨W.heap.size, 1, none⟩) (Nat.le_refl _) (.int .i64 P.x.root)).setCell (p := ⟨W.heap.size, 2, none⟩) (Nat.le_refl _) (.int .i64 P.x.free)).setCell (p := ⟨W.heap.size, 3, none⟩) (Nat.le_refl _) (.int .i64 P.x.pages))
 have HW := Lib.hid hw1
 generalize hbx : W.heap.size = bx at k0 k1 k2 k3 f0 f1 f2 f3 HA HB
 clear h hw1 b1 z1
 go_enter Tryz.func16, Tryz.ntmps16
 go_upto_region 1 with fail
 try rw [← HW.out]
 try rw [hbx]
 clear hbx HW
 go_wp2_with fail
 refine bodyPost_ret (results_cell_row rfl _ _ bx 29 _ (0, 0) _ rfl HA.out Tryz.underlying29 rfl (by kernel_rfl)) rfl ?_
 exact ⟨rfl, HB.out⟩
end
end Go.Proofs.YtpidnkfcccboaaaGreat.PagerCode
