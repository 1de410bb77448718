/- Contracts of the pager's functions that put and take. -/
import Derived.Test.YtpidnkfcccboaaaGreatKPagerCode1
import Derived.Test.YtpidnkfcccboaaaGreatKPagerDisk
import Derived.Deep.Cut
namespace Go.Proofs.YtpidnkfcccboaaaGreat.PagerCode
open Go.RowKit Base PagePlain PageSmall FreePlain FreeMem SuperPlain SuperRefCheck PagerPlain PagerTold PagerNum PagerSpec SumOf DiskPlain DiskMem DiskSmall PagerMem Go.Maps

def TkO (lo : Nat) (z : Int) (l : Fs) (b : Bool) (v : Value) (w : World) : Prop := ∃ A c, v = .tuple #[.int .i64 z, .slice A l.length c, .bool b] ∧ l.length ≤ c ∧ RowP w (fun i => lo ≤ i) A (fr l)
def FrO (lo : Nat) (l : Fs) (v : Value) (w : World) : Prop := ∃ A c, v = .slice A l.length c ∧ l.length ≤ c ∧ RowP w (fun i => lo ≤ i) A (fr l)
theorem TkO.below {lo : Nat} {z : Int} {l : Fs} {b : Bool} {v : Value} {w w' : World} (h : TkO lo z l b v w) (hb : Below w.heap.size w w') : TkO lo z l b v w' := by
  obtain ⟨A, c, h1, h2, h3⟩ := h
  exact ⟨A, c, h1, h2, h3.below hb⟩
theorem FrO.below {lo : Nat} {l : Fs} {v : Value} {w w' : World} (h : FrO lo l v w) (hb : Below w.heap.size w w') : FrO lo l v w' := by
  obtain ⟨A, c, h1, h2, h3⟩ := h
  exact ⟨A, c, h1, h2, h3.below hb⟩
theorem below_drewN2 {W w : World} {B : Nat} (h : Below B W w) (n : Nat) : Below B W (w.drewN n) := h.trans (Base.below_drewN w B n)
section
variable {W w w' : World} {p d g mp : Nat} {S : DS} {P P' : PS} {X Y G : Blks} {m m' : Int} {nn : Nat} {FD : Blks} {A B C : Option Addr} {a b c : Nat}
theorem _root_.Go.Proofs.YtpidnkfcccboaaaGreat.PagerMem.Cr.setFl {C' : Option Addr} {c' : Nat} (h : Cr w p d g mp S P X m nn FD A B C a b c) (l : Fs) (hr : RowP w (Out p g mp FD X) C' (fr l)) (hc : l.length ≤ c') :
    Cr (w.setCell ⟨p, 9, none⟩ (.slice C' l.length c')) p d g mp S { P with fl := l } X m nn FD A B C' a b c' ∧ Turn (fun i => i = p) w (w.setCell ⟨p, 9, none⟩ (.slice C' l.length c')) := by
  have t : Turn (fun i => i = p) w (w.setCell ⟨p, 9, none⟩ (.slice C' l.length c')) := (Turn.refl (fun i => i = p) w).set ⟨p, 9, none⟩ (Or.inr (show (fun i => i = p) p from rfl)) _
  exact ⟨h.re t (by have := h.st.set 9 (.slice C' l.length c'); simpa using this) rfl h.la h.lb hc h.ra h.rb hr, t⟩
theorem _root_.Go.Proofs.YtpidnkfcccboaaaGreat.PagerMem.Cr.setPg (h : Cr w p d g mp S P X m nn FD A B C a b c) (z : Int) :
    Cr (w.setCell ⟨p, 2, none⟩ (.int .i64 z)) p d g mp S { P with pg := z } X m nn FD A B C a b c ∧ Turn (fun i => i = p) w (w.setCell ⟨p, 2, none⟩ (.int .i64 z)) := by
  have t : Turn (fun i => i = p) w (w.setCell ⟨p, 2, none⟩ (.int .i64 z)) := (Turn.refl (fun i => i = p) w).set ⟨p, 2, none⟩ (Or.inr (show (fun i => i = p) p from rfl)) _
  exact ⟨h.re t (by have := h.st.set 2 (.int .i64 z); simpa using this) rfl h.la h.lb h.lc h.ra h.rb h.rc, t⟩
theorem _root_.Go.Proofs.YtpidnkfcccboaaaGreat.PagerMem.Cr.setOd (h : Cr w p d g mp S P X m nn FD A B C a b c) (z : Int) :
    Cr (w.setCell ⟨p, 11, none⟩ (.int .i64 z)) p d g mp S { P with od := z } X m nn FD A B C a b c ∧ Turn (fun i => i = p) w (w.setCell ⟨p, 11, none⟩ (.int .i64 z)) := by
  have t : Turn (fun i => i = p) w (w.setCell ⟨p, 11, none⟩ (.int .i64 z)) := (Turn.refl (fun i => i = p) w).set ⟨p, 11, none⟩ (Or.inr (show (fun i => i = p) p from rfl)) _
  exact ⟨h.re t (by have := h.st.set 11 (.int .i64 z); simpa using this) rfl h.la h.lb h.lc h.ra h.rb h.rc, t⟩
theorem _root_.Go.Proofs.YtpidnkfcccboaaaGreat.PagerMem.Cr.notX (h : Cr w p d g mp S P X m nn FD A B C a b c) (t : Turn (fun i => i = p) W w') : Turn (Not X) W w' := t.mono fun i _ e => by rw [show i = p from e]; exact h.xp
/-- a page of the pager's lets go -/
def _root_.Go.Proofs.YtpidnkfcccboaaaGreat.PagerPlain.PS.go (P : PS) (no : Int) : PS := if no ∈ P.nw then { P with nw := P.nw.filter (· ≠ no), fl := ins no 0 P.fl } else { P with fl := ins no (P.x.ep + 1) P.fl }
theorem drop_go (P : PS) (no : Int) : P.drop no = if P.there no then (P.go no, 0) else (P, 81) := by
  unfold PS.drop PS.go
  split
  · split <;> rfl
  · rfl
set_option maxRecDepth 100000 in
set_option maxHeartbeats 3200000 in
theorem inUse_any (h : Cr W p d g mp S P X m nn FD A B C a b c) (hu : Rise P.fl) (hl : P.fl.length ≤ 1000) (no : Int) : Calls Tryz.prog 51 #[.pointer (some ⟨p, 0, none⟩), .int .i64 no] W fun e w' => e = .returned (.bool (decide (P.there no))) ∧ Below W.heap.size W w' := by
  obtain ⟨k, bb, hs⟩ := FreeSl.sr_ex no hu
  have hcall := PagerFind.search_any W C P.fl.length c P.fl no rfl h.rc.row hu (by omega)
  have HS := Lib.hid hs
  have HU := Lib.hid hu
  obtain ⟨_, _, _, _, c9, _⟩ := pgc h.st
  clear hs hu hl
  go_enter Tryz.func51, Tryz.ntmps51
  go_wp2_with fail
  (with_reducible refine hcall.mono ?_)
  clear hcall
  rintro e w1 ⟨k1, b1, rfl, hs1, hb1⟩
  have hks := PagerFind.sr_ks HU.out hs1
  obtain ⟨⟨_, _, c2⟩, _⟩ := pgc (h.below hb1).st
  have hcall := has_any w1 p no P.pg c2
  have HR := Lib.hid (show (decide (2 ≤ no ∧ no < P.pg) && !b1) = decide (P.there no) by
    rw [hks]
    by_cases q1 : 2 ≤ no ∧ no < P.pg
    · by_cases q2 : no ∈ P.fl.map (·.1)
      · rw [decide_eq_true q1, decide_eq_true q2, decide_eq_false (fun z : P.there no => z.2.2 q2)]; rfl
      · rw [decide_eq_true q1, decide_eq_false q2, decide_eq_true (show P.there no from ⟨q1.1, q1.2, q2⟩)]; rfl
    · rw [decide_eq_false q1, decide_eq_false (fun z : P.there no => q1 ⟨z.1, z.2.1⟩)]; rfl)
  generalize decide (2 ≤ no ∧ no < P.pg) = b2 at *
  clear hs1 hks HS HU c9 c2 h
  go_wp2_with fail
  (with_reducible refine hcall.mono ?_)
  clear hcall
  rintro e w2 ⟨rfl, rfl⟩
  cases b2 with
  | true =>
    go_wp2_with fail
    go_ret
    exact ⟨ret_bool (by rw [← HR.out]; simp), hb1⟩
  | false =>
    go_wp2_with fail
    go_ret
    exact ⟨ret_bool (by rw [← HR.out]; simp), hb1⟩
set_option maxRecDepth 100000 in
set_option maxHeartbeats 6400000 in
theorem letGo_any (h : Cr W p d g mp S P X m nn FD A B C a b c) (hu : Rise P.fl) (hl : P.fl.length ≤ 1000) (h0 : 0 ≤ P.x.ep) (h1 : P.x.ep ≤ 4294967295) (no : Int) (hn : In no) : Calls Tryz.prog 58 #[.pointer (some ⟨p, 0, none⟩), .int .i64 no] W fun e w' =>
    e = .returned (.tuple #[]) ∧ (∃ C' c', Cr w' p d g mp S (P.go no) X m nn FD A B C' a b c') ∧ Turn (Not X) W w' := by
  obtain ⟨_, ⟨c3, _⟩, _, _, _, c10, _⟩ := pgc h.st
  have hcall := epoch_any W p P.x.ep c3 h0 h1
  have hcal2 := isNew_any W p mp nn P.nw no c10 h.ms hn
  have HU := Lib.hid hu
  have HLL := Lib.hid hl
  have hkey := keyI hn
  by_cases hin : no ∈ P.nw
  · have HG := Lib.hid (show P.go no = { P with nw := P.nw.filter (· ≠ no), fl := ins no 0 P.fl } by unfold PS.go; rw [if_pos hin])
    rw [decide_eq_true hin] at hcal2
    clear c3 c10 hu hl hin h0 h1
    go_enter Tryz.func58, Tryz.ntmps58
    go_wp2_with fail
    (with_reducible refine hcall.mono ?_)
    clear hcall
    rintro e w1 ⟨rfl, rfl⟩
    go_wp2_with fail
    (with_reducible refine hcal2.mono ?_)
    clear hcal2
    rintro e w1 ⟨rfl, b1⟩
    have h1 := h.below b1
    have T1 := Lib.hid (show Turn (Not X) W w1 from Turn.ofBelow b1)
    clear h b1
    obtain ⟨_, _, _, _, c9, c10, _⟩ := pgc h1.st
    obtain ⟨D, hom, hD⟩ := h1.ms
    have HD := Lib.hid hD
    clear hD
    go_upto_region 4 with (at_delete; refine wpList_delete_own _ rfl _ _ 57 3 rfl 103 lawI Tryz.underlying57 _ mp nn D rfl hom _ _ rfl hkey ?_; intro w2 hown2 hturn2)
    have t2 : Turn (fun i => i = mp) w1 w2 := Turn.ofGrown hturn2.grown fun k e _ => by injection e with e; exact e.symm
    have h2 := h1.reset t2 _ (set_del hown2 HD.out) h1.nn
    have T2 := Lib.hid (show Turn (Not X) W w2 from T1.out.step (t2.mono fun i _ e => by rw [show i = mp from e]; exact h1.xm))
    clear t2 hown2 hturn2 c9 c10 T1 HD hom h1
    obtain ⟨_, _, _, _, c9, _⟩ := pgc h2.st
    have hcall := FreePut.put_any w2 C P.fl.length c P.fl no 0 rfl h2.lc h2.rc.row HU.out HLL.out
    go_wp2_with fail
    (with_reducible refine hcall.mono ?_)
    clear hcall
    rintro e w3 ⟨A3, m3, k3, rfl, hm3, ho, b3⟩
    subst hm3
    have hh := Cr.setFl (h2.below b3) (ins no 0 P.fl) (h2.newRow (ownF_rowP ho)) ho.cap.1
    have hf9 : w3.frozen? ⟨p, 9, none⟩ = false := (h2.below b3).st.frozen 9
    obtain ⟨_, _, _, _, d9, _⟩ := pgc (h2.below b3).st
    have HN := Lib.hid hh.1
    have HT := Lib.hid (T2.out.step ((Turn.ofBelow b3).step (h2.notX hh.2)))
    clear ho b3 hh h2 T2 c9
    go_wp2_with fail
    go_end0
    exact ⟨rfl, ⟨_, _, by rw [HG.out]; exact HN.out⟩, HT.out⟩
  · have HG := Lib.hid (show P.go no = { P with fl := ins no (P.x.ep + 1) P.fl } by unfold PS.go; rw [if_neg hin])
    rw [decide_eq_false hin] at hcal2
    clear c3 c10 hu hl hin h0 h1
    go_enter Tryz.func58, Tryz.ntmps58
    go_wp2_with fail
    (with_reducible refine hcall.mono ?_)
    clear hcall
    rintro e w1 ⟨rfl, rfl⟩
    go_wp2_with fail
    (with_reducible refine hcal2.mono ?_)
    clear hcal2
    rintro e w2 ⟨rfl, b1⟩
    have h2 := h.below b1
    have T2 := Lib.hid (show Turn (Not X) W w2 from Turn.ofBelow b1)
    clear h b1
    obtain ⟨_, _, _, _, c9, _⟩ := pgc h2.st
    have hcall := FreePut.put_any w2 C P.fl.length c P.fl no (P.x.ep + 1) rfl h2.lc h2.rc.row HU.out HLL.out
    go_wp2_with fail
    (with_reducible refine hcall.mono ?_)
    clear hcall
    rintro e w3 ⟨A3, m3, k3, rfl, hm3, ho, b3⟩
    subst hm3
    have hh := Cr.setFl (h2.below b3) (ins no (P.x.ep + 1) P.fl) (h2.newRow (ownF_rowP ho)) ho.cap.1
    have hf9 : w3.frozen? ⟨p, 9, none⟩ = false := (h2.below b3).st.frozen 9
    obtain ⟨_, _, _, _, d9, _⟩ := pgc (h2.below b3).st
    have HN := Lib.hid hh.1
    have HT := Lib.hid (T2.out.step ((Turn.ofBelow b3).step (h2.notX hh.2)))
    clear ho b3 hh h2 T2 c9
    go_wp2_with fail
    go_end0
    exact ⟨rfl, ⟨_, _, by rw [HG.out]; exact HN.out⟩, HT.out⟩
set_option maxRecDepth 100000 in
set_option maxHeartbeats 6400000 in
theorem next_any (h : Cr W p d g mp S P X m nn FD A B C a b c) (hl : P.fl.length ≤ 1000) (h0 : 0 ≤ P.pg) (h1 : P.pg ≤ 100000) : Calls Tryz.prog 49 #[.pointer (some ⟨p, 0, none⟩)] W fun e w' => Below W.heap.size W w' ∧
    ((∃ no l A' c', first P.od P.fl = (some no, l) ∧ e = .returned (.tuple #[.int .i64 no, .slice A' l.length c', .int .i64 P.pg]) ∧ l.length ≤ c' ∧ RowP w' (fun i => W.heap.size ≤ i) A' (fr l)) ∨
     ((first P.od P.fl).1 = none ∧ e = .returned (.tuple #[.int .i64 P.pg, .slice C P.fl.length c, .int .i64 (P.pg + 1)]))) := by
  have HC := Lib.hid (fun (w' : World) (hb : Below W.heap.size W w') => by
    obtain ⟨⟨_, _, c2⟩, _, _, _, c9, _, c11⟩ := pgc (h.below hb).st
    exact (⟨c2, c9, c11⟩ : w'.cell? ⟨p, 2, none⟩ = some (.int .i64 P.pg) ∧ w'.cell? ⟨p, 9, none⟩ = some (.slice C P.fl.length c) ∧ w'.cell? ⟨p, 11, none⟩ = some (.int .i64 P.od)))
  have HR := Lib.hid (fun (w' : World) (hb : Below W.heap.size W w') => (h.below hb).rc)
  have HLC := Lib.hid h.lc
  have HLL := Lib.hid hl
  have hw : IntKind.i64.wrap (P.pg + 1) = P.pg + 1 := IntWalk.i64_in _ (by omega)
  have hJ0 : Below W.heap.size W (World.drew W) := (Below.refl _ _).drew
  obtain ⟨o, l, hf⟩ : ∃ o l, first P.od P.fl = (o, l) := ⟨_, _, rfl⟩
  rw [hf]
  have HF := Lib.hid hf
  clear hf h hl h0 h1
  cases o with
  | some no =>
    go_enter Tryz.func49, Tryz.ntmps49
    go_upto_region 1 with fail
    refine wp_region_any (by kernel_rfl) ?_
    change wpAny _ _ _ _ _ _ _ (World.drew _)
    refine Inv.inv_any (fun (i : Nat) (v : Value) (w : World) => match i with | 0 => v = .pointer (some ⟨p, 0, none⟩) | 1 => v = .pointer (some ⟨p, 0, none⟩) | 2 => v = .pointer (some ⟨p, 9, none⟩) | 3 => v = .slice C P.fl.length c | 4 => v = .pointer (some ⟨p, 0, none⟩) | 5 => v = .pointer (some ⟨p, 0, none⟩) | 6 => v = .pointer (some ⟨p, 11, none⟩) | 7 => v = .int .i64 P.od | 8 => TkO W.heap.size no l true v w | 9 => TkO W.heap.size no l true v w | 10 => v = .int .i64 no | 11 => FrO W.heap.size l v w | 12 => v = .bool true | 13 => v = .int .i64 no | 14 => FrO W.heap.size l v w | 15 => v = .bool true | _ => True) (fun w' : World => Below W.heap.size W w') _ 15 44 rfl rfl rfl (by kernel_rfl) (by kernel_rfl) hJ0 ?_ ?_ ?_ ?_
    · intro j v w w' h hb
      match j, h with
      | 0, h => exact h
      | 1, h => exact h
      | 2, h => exact h
      | 3, h => exact h
      | 4, h => exact h
      | 5, h => exact h
      | 6, h => exact h
      | 7, h => exact h
      | 8, h => exact TkO.below h hb
      | 9, h => exact TkO.below h hb
      | 10, h => exact h
      | 11, h => exact FrO.below h hb
      | 12, h => exact h
      | 13, h => exact h
      | 14, h => exact FrO.below h hb
      | 15, h => exact h
      | (_ + 16), _ => exact trivial
    · skip
      refine Inv.from_cons _ _ _ _ rfl (fun _ a w hJ hF F K hK => ?_) ?_
      · have hz : a.tmps.size = 44 := hF.size
        have e0 : a.tmps[0]? = some (.pointer (some ⟨p, 0, none⟩)) := Inv2.some_slot (by rw [hz]; exact Nat.le_of_ble_eq_true rfl) (hF.slot 0 (by kernel_rfl))
        clear F hF hz
        go_simp
        exact hK (.pointer (some ⟨p, 0, none⟩)) _ hJ (Below.refl _ _) rfl
      refine Inv.from_cons _ _ _ _ rfl (fun _ a w hJ hF F K hK => ?_) ?_
      · have hz : a.tmps.size = 44 := hF.size
        have e9 : a.tmps[9]? = some (.pointer (some ⟨p, 0, none⟩)) := Inv2.some_slot (by rw [hz]; exact Nat.le_of_ble_eq_true rfl) (F 0 (by kernel_rfl) 9 rfl)
        clear F hF hz
        go_simp
        exact hK (.pointer (some ⟨p, 0, none⟩)) _ hJ (Below.refl _ _) rfl
      refine Inv.from_cons _ _ _ _ rfl (fun _ a w hJ hF F K hK => ?_) ?_
      · have hz : a.tmps.size = 44 := hF.size
        have e10 : a.tmps[10]? = some (.pointer (some ⟨p, 0, none⟩)) := Inv2.some_slot (by rw [hz]; exact Nat.le_of_ble_eq_true rfl) (F 1 (by kernel_rfl) 10 rfl)
        clear F hF hz
        go_simp
        exact hK (.pointer (some ⟨p, 9, none⟩)) _ hJ (Below.refl _ _) rfl
      refine Inv.from_cons _ _ _ _ rfl (fun _ a w hJ hF F K hK => ?_) ?_
      · have hz : a.tmps.size = 44 := hF.size
        have e11 : a.tmps[11]? = some (.pointer (some ⟨p, 9, none⟩)) := Inv2.some_slot (by rw [hz]; exact Nat.le_of_ble_eq_true rfl) (F 2 (by kernel_rfl) 11 rfl)
        clear F hF hz
        obtain ⟨c2, c9, c11⟩ := HC.out _ hJ
        go_simp
        exact hK (.slice C P.fl.length c) _ hJ (Below.refl _ _) rfl
      refine Inv.from_cons _ _ _ _ rfl (fun _ a w hJ hF F K hK => ?_) ?_
      · have hz : a.tmps.size = 44 := hF.size
        have e0 : a.tmps[0]? = some (.pointer (some ⟨p, 0, none⟩)) := Inv2.some_slot (by rw [hz]; exact Nat.le_of_ble_eq_true rfl) (hF.slot 0 (by kernel_rfl))
        clear F hF hz
        go_simp
        exact hK (.pointer (some ⟨p, 0, none⟩)) _ hJ (Below.refl _ _) rfl
      refine Inv.from_cons _ _ _ _ rfl (fun _ a w hJ hF F K hK => ?_) ?_
      · have hz : a.tmps.size = 44 := hF.size
        have e13 : a.tmps[13]? = some (.pointer (some ⟨p, 0, none⟩)) := Inv2.some_slot (by rw [hz]; exact Nat.le_of_ble_eq_true rfl) (F 4 (by kernel_rfl) 13 rfl)
        clear F hF hz
        go_simp
        exact hK (.pointer (some ⟨p, 0, none⟩)) _ hJ (Below.refl _ _) rfl
      refine Inv.from_cons _ _ _ _ rfl (fun _ a w hJ hF F K hK => ?_) ?_
      · have hz : a.tmps.size = 44 := hF.size
        have e14 : a.tmps[14]? = some (.pointer (some ⟨p, 0, none⟩)) := Inv2.some_slot (by rw [hz]; exact Nat.le_of_ble_eq_true rfl) (F 5 (by kernel_rfl) 14 rfl)
        clear F hF hz
        go_simp
        exact hK (.pointer (some ⟨p, 11, none⟩)) _ hJ (Below.refl _ _) rfl
      refine Inv.from_cons _ _ _ _ rfl (fun _ a w hJ hF F K hK => ?_) ?_
      · have hz : a.tmps.size = 44 := hF.size
        have e15 : a.tmps[15]? = some (.pointer (some ⟨p, 11, none⟩)) := Inv2.some_slot (by rw [hz]; exact Nat.le_of_ble_eq_true rfl) (F 6 (by kernel_rfl) 15 rfl)
        clear F hF hz
        obtain ⟨c2, c9, c11⟩ := HC.out _ hJ
        go_simp
        exact hK (.int .i64 P.od) _ hJ (Below.refl _ _) rfl
      refine Inv.from_cons _ _ _ _ rfl (fun _ a w hJ hF F K hK => ?_) ?_
      · have hz : a.tmps.size = 44 := hF.size
        have e12 : a.tmps[12]? = some (.slice C P.fl.length c) := Inv2.some_slot (by rw [hz]; exact Nat.le_of_ble_eq_true rfl) (F 3 (by kernel_rfl) 12 rfl)
        have e16 : a.tmps[16]? = some (.int .i64 P.od) := Inv2.some_slot (by rw [hz]; exact Nat.le_of_ble_eq_true rfl) (F 7 (by kernel_rfl) 16 rfl)
        clear F hF hz
        have hh := FreePut.take_any w C P.fl.length c P.fl P.od rfl HLC.out (HR.out _ hJ).row HLL.out
        rw [HF.out] at hh
        simp only [Option.getD, Option.isSome] at hh
        go_simp
        (with_reducible refine hh.mono ?_)
        rintro e' w' ⟨A3, m3, c3, rfl, hm3, ho, hb⟩
        subst hm3
        go_simp
        exact hK _ _ (Below.step hJ hb) hb ⟨A3, c3, rfl, ho.cap.1, (ownF_rowP ho).wide fun i hi => Nat.le_trans hJ.size hi⟩
      refine Inv.from_cons _ _ _ _ rfl (fun _ a w hJ hF F K hK => ?_) ?_
      · have hz : a.tmps.size = 44 := hF.size
        obtain ⟨x17, e17, f8⟩ : ∃ xv, a.tmps[17]? = some xv ∧ TkO W.heap.size no l true xv w := ⟨_, Inv2.some_slot (by rw [hz]; exact Nat.le_of_ble_eq_true rfl) rfl, F 8 (by kernel_rfl) 17 rfl⟩
        clear F hF hz
        go_simp
        exact hK _ _ hJ (Below.refl _ _) f8
      refine Inv.from_cons _ _ _ _ rfl (fun _ a w hJ hF F K hK => ?_) ?_
      · have hz : a.tmps.size = 44 := hF.size
        obtain ⟨x8, e8, f9⟩ : ∃ xv, a.tmps[8]? = some xv ∧ TkO W.heap.size no l true xv w := ⟨_, Inv2.some_slot (by rw [hz]; exact Nat.le_of_ble_eq_true rfl) rfl, F 9 (by kernel_rfl) 8 rfl⟩
        clear F hF hz
        obtain ⟨A3, c3, hx, h1, h2⟩ := f9
        subst hx
        go_simp
        exact hK (.int .i64 no) _ hJ (Below.refl _ _) rfl
      refine Inv.from_cons _ _ _ _ rfl (fun _ a w hJ hF F K hK => ?_) ?_
      · have hz : a.tmps.size = 44 := hF.size
        obtain ⟨x8, e8, f9⟩ : ∃ xv, a.tmps[8]? = some xv ∧ TkO W.heap.size no l true xv w := ⟨_, Inv2.some_slot (by rw [hz]; exact Nat.le_of_ble_eq_true rfl) rfl, F 9 (by kernel_rfl) 8 rfl⟩
        clear F hF hz
        obtain ⟨A3, c3, hx, h1, h2⟩ := f9
        subst hx
        go_simp
        exact hK _ _ hJ (Below.refl _ _) ⟨A3, c3, rfl, h1, h2⟩
      refine Inv.from_cons _ _ _ _ rfl (fun _ a w hJ hF F K hK => ?_) ?_
      · have hz : a.tmps.size = 44 := hF.size
        obtain ⟨x8, e8, f9⟩ : ∃ xv, a.tmps[8]? = some xv ∧ TkO W.heap.size no l true xv w := ⟨_, Inv2.some_slot (by rw [hz]; exact Nat.le_of_ble_eq_true rfl) rfl, F 9 (by kernel_rfl) 8 rfl⟩
        clear F hF hz
        obtain ⟨A3, c3, hx, h1, h2⟩ := f9
        subst hx
        go_simp
        exact hK (.bool true) _ hJ (Below.refl _ _) rfl
      refine Inv.from_cons _ _ _ _ rfl (fun _ a w hJ hF F K hK => ?_) ?_
      · have hz : a.tmps.size = 44 := hF.size
        have e9 : a.tmps[9]? = some (.pointer (some ⟨p, 0, none⟩)) := Inv2.some_slot (by rw [hz]; exact Nat.le_of_ble_eq_true rfl) (F 0 (by kernel_rfl) 9 rfl)
        have e10 : a.tmps[10]? = some (.pointer (some ⟨p, 0, none⟩)) := Inv2.some_slot (by rw [hz]; exact Nat.le_of_ble_eq_true rfl) (F 1 (by kernel_rfl) 10 rfl)
        have e11 : a.tmps[11]? = some (.pointer (some ⟨p, 9, none⟩)) := Inv2.some_slot (by rw [hz]; exact Nat.le_of_ble_eq_true rfl) (F 2 (by kernel_rfl) 11 rfl)
        have e12 : a.tmps[12]? = some (.slice C P.fl.length c) := Inv2.some_slot (by rw [hz]; exact Nat.le_of_ble_eq_true rfl) (F 3 (by kernel_rfl) 12 rfl)
        have e13 : a.tmps[13]? = some (.pointer (some ⟨p, 0, none⟩)) := Inv2.some_slot (by rw [hz]; exact Nat.le_of_ble_eq_true rfl) (F 4 (by kernel_rfl) 13 rfl)
        have e14 : a.tmps[14]? = some (.pointer (some ⟨p, 0, none⟩)) := Inv2.some_slot (by rw [hz]; exact Nat.le_of_ble_eq_true rfl) (F 5 (by kernel_rfl) 14 rfl)
        have e15 : a.tmps[15]? = some (.pointer (some ⟨p, 11, none⟩)) := Inv2.some_slot (by rw [hz]; exact Nat.le_of_ble_eq_true rfl) (F 6 (by kernel_rfl) 15 rfl)
        have e16 : a.tmps[16]? = some (.int .i64 P.od) := Inv2.some_slot (by rw [hz]; exact Nat.le_of_ble_eq_true rfl) (F 7 (by kernel_rfl) 16 rfl)
        obtain ⟨x17, e17, f8⟩ : ∃ xv, a.tmps[17]? = some xv ∧ TkO W.heap.size no l true xv w := ⟨_, Inv2.some_slot (by rw [hz]; exact Nat.le_of_ble_eq_true rfl) rfl, F 8 (by kernel_rfl) 17 rfl⟩
        obtain ⟨x8, e8, f9⟩ : ∃ xv, a.tmps[8]? = some xv ∧ TkO W.heap.size no l true xv w := ⟨_, Inv2.some_slot (by rw [hz]; exact Nat.le_of_ble_eq_true rfl) rfl, F 9 (by kernel_rfl) 8 rfl⟩
        have e18 : a.tmps[18]? = some (.int .i64 no) := Inv2.some_slot (by rw [hz]; exact Nat.le_of_ble_eq_true rfl) (F 10 (by kernel_rfl) 18 rfl)
        clear F hF hz
        go_simp
        exact hK (.int .i64 no) _ hJ (Below.refl _ _) rfl
      refine Inv.from_cons _ _ _ _ rfl (fun _ a w hJ hF F K hK => ?_) ?_
      · have hz : a.tmps.size = 44 := hF.size
        have e9 : a.tmps[9]? = some (.pointer (some ⟨p, 0, none⟩)) := Inv2.some_slot (by rw [hz]; exact Nat.le_of_ble_eq_true rfl) (F 0 (by kernel_rfl) 9 rfl)
        have e10 : a.tmps[10]? = some (.pointer (some ⟨p, 0, none⟩)) := Inv2.some_slot (by rw [hz]; exact Nat.le_of_ble_eq_true rfl) (F 1 (by kernel_rfl) 10 rfl)
        have e11 : a.tmps[11]? = some (.pointer (some ⟨p, 9, none⟩)) := Inv2.some_slot (by rw [hz]; exact Nat.le_of_ble_eq_true rfl) (F 2 (by kernel_rfl) 11 rfl)
        have e12 : a.tmps[12]? = some (.slice C P.fl.length c) := Inv2.some_slot (by rw [hz]; exact Nat.le_of_ble_eq_true rfl) (F 3 (by kernel_rfl) 12 rfl)
        have e13 : a.tmps[13]? = some (.pointer (some ⟨p, 0, none⟩)) := Inv2.some_slot (by rw [hz]; exact Nat.le_of_ble_eq_true rfl) (F 4 (by kernel_rfl) 13 rfl)
        have e14 : a.tmps[14]? = some (.pointer (some ⟨p, 0, none⟩)) := Inv2.some_slot (by rw [hz]; exact Nat.le_of_ble_eq_true rfl) (F 5 (by kernel_rfl) 14 rfl)
        have e15 : a.tmps[15]? = some (.pointer (some ⟨p, 11, none⟩)) := Inv2.some_slot (by rw [hz]; exact Nat.le_of_ble_eq_true rfl) (F 6 (by kernel_rfl) 15 rfl)
        have e16 : a.tmps[16]? = some (.int .i64 P.od) := Inv2.some_slot (by rw [hz]; exact Nat.le_of_ble_eq_true rfl) (F 7 (by kernel_rfl) 16 rfl)
        obtain ⟨x17, e17, f8⟩ : ∃ xv, a.tmps[17]? = some xv ∧ TkO W.heap.size no l true xv w := ⟨_, Inv2.some_slot (by rw [hz]; exact Nat.le_of_ble_eq_true rfl) rfl, F 8 (by kernel_rfl) 17 rfl⟩
        obtain ⟨x8, e8, f9⟩ : ∃ xv, a.tmps[8]? = some xv ∧ TkO W.heap.size no l true xv w := ⟨_, Inv2.some_slot (by rw [hz]; exact Nat.le_of_ble_eq_true rfl) rfl, F 9 (by kernel_rfl) 8 rfl⟩
        have e18 : a.tmps[18]? = some (.int .i64 no) := Inv2.some_slot (by rw [hz]; exact Nat.le_of_ble_eq_true rfl) (F 10 (by kernel_rfl) 18 rfl)
        obtain ⟨x19, e19, f11⟩ : ∃ xv, a.tmps[19]? = some xv ∧ FrO W.heap.size l xv w := ⟨_, Inv2.some_slot (by rw [hz]; exact Nat.le_of_ble_eq_true rfl) rfl, F 11 (by kernel_rfl) 19 rfl⟩
        have e5 : a.tmps[5]? = some (.int .i64 no) := Inv2.some_slot (by rw [hz]; exact Nat.le_of_ble_eq_true rfl) (F 13 (by kernel_rfl) 5 rfl)
        clear F hF hz
        go_simp
        exact hK _ _ hJ (Below.refl _ _) f11
      refine Inv.from_skip _ _ _ _ rfl ?_
      exact Inv.from_end _ _ _ _ (by decide +kernel)
    · intro o ho a w hJ hF F K hK
      injection (show some _ = some o from ho) with ho
      subst ho
      obtain ⟨f, hf⟩ : ∃ f : Nat → Value, ∀ i, a.tmps.getD i undef = f i := ⟨_, fun _ => rfl⟩
      have g0 : f 0 = (.pointer (some ⟨p, 0, none⟩)) := (hf 0).symm.trans (hF.slot 0 (by kernel_rfl))
      have g2 : f 2 = (.int .i64 0) := (hf 2).symm.trans (hF.slot 2 (by kernel_rfl))
      have g3 : f 3 = (.slice none 0 0) := (hf 3).symm.trans (hF.slot 3 (by kernel_rfl))
      have g4 : f 4 = (.int .i64 0) := (hf 4).symm.trans (hF.slot 4 (by kernel_rfl))
      have g9 : f 9 = (.pointer (some ⟨p, 0, none⟩)) := (hf 9).symm.trans (F 0 (by decide) 9 rfl)
      have g10 : f 10 = (.pointer (some ⟨p, 0, none⟩)) := (hf 10).symm.trans (F 1 (by decide) 10 rfl)
      have g11 : f 11 = (.pointer (some ⟨p, 9, none⟩)) := (hf 11).symm.trans (F 2 (by decide) 11 rfl)
      have g12 : f 12 = (.slice C P.fl.length c) := (hf 12).symm.trans (F 3 (by decide) 12 rfl)
      have g13 : f 13 = (.pointer (some ⟨p, 0, none⟩)) := (hf 13).symm.trans (F 4 (by decide) 13 rfl)
      have g14 : f 14 = (.pointer (some ⟨p, 0, none⟩)) := (hf 14).symm.trans (F 5 (by decide) 14 rfl)
      have g15 : f 15 = (.pointer (some ⟨p, 11, none⟩)) := (hf 15).symm.trans (F 6 (by decide) 15 rfl)
      have g16 : f 16 = (.int .i64 P.od) := (hf 16).symm.trans (F 7 (by decide) 16 rfl)
      obtain ⟨x17, g17⟩ : ∃ x, f 17 = x := ⟨_, rfl⟩
      have f8 : TkO W.heap.size no l true x17 w := by rw [← g17, ← hf 17]; exact F 8 (by decide) 17 rfl
      obtain ⟨x8, g8⟩ : ∃ x, f 8 = x := ⟨_, rfl⟩
      have f9 : TkO W.heap.size no l true x8 w := by rw [← g8, ← hf 8]; exact F 9 (by decide) 8 rfl
      have g18 : f 18 = (.int .i64 no) := (hf 18).symm.trans (F 10 (by decide) 18 rfl)
      obtain ⟨x19, g19⟩ : ∃ x, f 19 = x := ⟨_, rfl⟩
      have f11 : FrO W.heap.size l x19 w := by rw [← g19, ← hf 19]; exact F 11 (by decide) 19 rfl
      have g20 : f 20 = (.bool true) := (hf 20).symm.trans (F 12 (by decide) 20 rfl)
      have g5 : f 5 = (.int .i64 no) := (hf 5).symm.trans (F 13 (by decide) 5 rfl)
      obtain ⟨x6, g6⟩ : ∃ x, f 6 = x := ⟨_, rfl⟩
      have f14 : FrO W.heap.size l x6 w := by rw [← g6, ← hf 6]; exact F 14 (by decide) 6 rfl
      have ha := Frames.frame (show a.tmps.size = 44 from hF.size) hF.defers hf (l := [f 0, f 1, f 2, f 3, f 4, f 5, f 6, f 7, f 8, f 9, f 10, f 11, f 12, f 13, f 14, f 15, f 16, f 17, f 18, f 19, f 20, f 21, f 22, f 23, f 24, f 25, f 26, f 27, f 28, f 29, f 30, f 31, f 32, f 33, f 34, f 35, f 36, f 37, f 38, f 39, f 40, f 41, f 42, f 43]) rfl
      simp only [g0, g2, g3, g4, g9, g10, g11, g12, g13, g14, g15, g16, g17, g8, g18, g19, g20, g5, g6] at ha
      clear F hF hf g0 g2 g3 g4 g9 g10 g11 g12 g13 g14 g15 g16 g17 g8 g18 g19 g20 g5 g6
      subst ha
      obtain ⟨A3, c3, hx, h1, h2⟩ := f14
      subst hx
      clear f8 f9 f11
      have HB := Lib.hid hJ
      obtain ⟨c2, c9, c11⟩ := HC.out _ hJ
      clear hJ
      have H1 := Lib.hid h1
      have H2 := Lib.hid h2
      clear h1 h2
      go_simp
      refine hK _ _ ?_
      clear hK
      go_upto_region 3 with fail
      go_quiet (fail)
      go_wp2_with fail
      go_ret3
      exact ⟨below_drewN2 HB.out _, Or.inl ⟨no, l, A3, c3, rfl, rfl, H1.out, H2.out⟩⟩
    · intro hq; exact absurd hq (by decide +kernel)
  | none =>
    go_enter Tryz.func49, Tryz.ntmps49
    go_upto_region 1 with fail
    refine wp_region_any (by kernel_rfl) ?_
    change wpAny _ _ _ _ _ _ _ (World.drew _)
    refine Inv.inv_any (fun (i : Nat) (v : Value) (w : World) => match i with | 0 => v = .pointer (some ⟨p, 0, none⟩) | 1 => v = .pointer (some ⟨p, 0, none⟩) | 2 => v = .pointer (some ⟨p, 9, none⟩) | 3 => v = .slice C P.fl.length c | 4 => v = .pointer (some ⟨p, 0, none⟩) | 5 => v = .pointer (some ⟨p, 0, none⟩) | 6 => v = .pointer (some ⟨p, 11, none⟩) | 7 => v = .int .i64 P.od | 8 => TkO W.heap.size 0 l false v w | 9 => TkO W.heap.size 0 l false v w | 10 => v = .int .i64 0 | 11 => FrO W.heap.size l v w | 12 => v = .bool false | 13 => v = .int .i64 0 | 14 => FrO W.heap.size l v w | 15 => v = .bool false | _ => True) (fun w' : World => Below W.heap.size W w') _ 15 44 rfl rfl rfl (by kernel_rfl) (by kernel_rfl) hJ0 ?_ ?_ ?_ ?_
    · intro j v w w' h hb
      match j, h with
      | 0, h => exact h
      | 1, h => exact h
      | 2, h => exact h
      | 3, h => exact h
      | 4, h => exact h
      | 5, h => exact h
      | 6, h => exact h
      | 7, h => exact h
      | 8, h => exact TkO.below h hb
      | 9, h => exact TkO.below h hb
      | 10, h => exact h
      | 11, h => exact FrO.below h hb
      | 12, h => exact h
      | 13, h => exact h
      | 14, h => exact FrO.below h hb
      | 15, h => exact h
      | (_ + 16), _ => exact trivial
    · skip
      refine Inv.from_cons _ _ _ _ rfl (fun _ a w hJ hF F K hK => ?_) ?_
      · have hz : a.tmps.size = 44 := hF.size
        have e0 : a.tmps[0]? = some (.pointer (some ⟨p, 0, none⟩)) := Inv2.some_slot (by rw [hz]; exact Nat.le_of_ble_eq_true rfl) (hF.slot 0 (by kernel_rfl))
        clear F hF hz
        go_simp
        exact hK (.pointer (some ⟨p, 0, none⟩)) _ hJ (Below.refl _ _) rfl
      refine Inv.from_cons _ _ _ _ rfl (fun _ a w hJ hF F K hK => ?_) ?_
      · have hz : a.tmps.size = 44 := hF.size
        have e9 : a.tmps[9]? = some (.pointer (some ⟨p, 0, none⟩)) := Inv2.some_slot (by rw [hz]; exact Nat.le_of_ble_eq_true rfl) (F 0 (by kernel_rfl) 9 rfl)
        clear F hF hz
        go_simp
        exact hK (.pointer (some ⟨p, 0, none⟩)) _ hJ (Below.refl _ _) rfl
      refine Inv.from_cons _ _ _ _ rfl (fun _ a w hJ hF F K hK => ?_) ?_
      · have hz : a.tmps.size = 44 := hF.size
        have e10 : a.tmps[10]? = some (.pointer (some ⟨p, 0, none⟩)) := Inv2.some_slot (by rw [hz]; exact Nat.le_of_ble_eq_true rfl) (F 1 (by kernel_rfl) 10 rfl)
        clear F hF hz
        go_simp
        exact hK (.pointer (some ⟨p, 9, none⟩)) _ hJ (Below.refl _ _) rfl
      refine Inv.from_cons _ _ _ _ rfl (fun _ a w hJ hF F K hK => ?_) ?_
      · have hz : a.tmps.size = 44 := hF.size
        have e11 : a.tmps[11]? = some (.pointer (some ⟨p, 9, none⟩)) := Inv2.some_slot (by rw [hz]; exact Nat.le_of_ble_eq_true rfl) (F 2 (by kernel_rfl) 11 rfl)
        clear F hF hz
        obtain ⟨c2, c9, c11⟩ := HC.out _ hJ
        go_simp
        exact hK (.slice C P.fl.length c) _ hJ (Below.refl _ _) rfl
      refine Inv.from_cons _ _ _ _ rfl (fun _ a w hJ hF F K hK => ?_) ?_
      · have hz : a.tmps.size = 44 := hF.size
        have e0 : a.tmps[0]? = some (.pointer (some ⟨p, 0, none⟩)) := Inv2.some_slot (by rw [hz]; exact Nat.le_of_ble_eq_true rfl) (hF.slot 0 (by kernel_rfl))
        clear F hF hz
        go_simp
        exact hK (.pointer (some ⟨p, 0, none⟩)) _ hJ (Below.refl _ _) rfl
      refine Inv.from_cons _ _ _ _ rfl (fun _ a w hJ hF F K hK => ?_) ?_
      · have hz : a.tmps.size = 44 := hF.size
        have e13 : a.tmps[13]? = some (.pointer (some ⟨p, 0, none⟩)) := Inv2.some_slot (by rw [hz]; exact Nat.le_of_ble_eq_true rfl) (F 4 (by kernel_rfl) 13 rfl)
        clear F hF hz
        go_simp
        exact hK (.pointer (some ⟨p, 0, none⟩)) _ hJ (Below.refl _ _) rfl
      refine Inv.from_cons _ _ _ _ rfl (fun _ a w hJ hF F K hK => ?_) ?_
      · have hz : a.tmps.size = 44 := hF.size
        have e14 : a.tmps[14]? = some (.pointer (some ⟨p, 0, none⟩)) := Inv2.some_slot (by rw [hz]; exact Nat.le_of_ble_eq_true rfl) (F 5 (by kernel_rfl) 14 rfl)
        clear F hF hz
        go_simp
        exact hK (.pointer (some ⟨p, 11, none⟩)) _ hJ (Below.refl _ _) rfl
      refine Inv.from_cons _ _ _ _ rfl (fun _ a w hJ hF F K hK => ?_) ?_
      · have hz : a.tmps.size = 44 := hF.size
        have e15 : a.tmps[15]? = some (.pointer (some ⟨p, 11, none⟩)) := Inv2.some_slot (by rw [hz]; exact Nat.le_of_ble_eq_true rfl) (F 6 (by kernel_rfl) 15 rfl)
        clear F hF hz
        obtain ⟨c2, c9, c11⟩ := HC.out _ hJ
        go_simp
        exact hK (.int .i64 P.od) _ hJ (Below.refl _ _) rfl
      refine Inv.from_cons _ _ _ _ rfl (fun _ a w hJ hF F K hK => ?_) ?_
      · have hz : a.tmps.size = 44 := hF.size
        have e12 : a.tmps[12]? = some (.slice C P.fl.length c) := Inv2.some_slot (by rw [hz]; exact Nat.le_of_ble_eq_true rfl) (F 3 (by kernel_rfl) 12 rfl)
        have e16 : a.tmps[16]? = some (.int .i64 P.od) := Inv2.some_slot (by rw [hz]; exact Nat.le_of_ble_eq_true rfl) (F 7 (by kernel_rfl) 16 rfl)
        clear F hF hz
        have hh := FreePut.take_any w C P.fl.length c P.fl P.od rfl HLC.out (HR.out _ hJ).row HLL.out
        rw [HF.out] at hh
        simp only [Option.getD, Option.isSome] at hh
        go_simp
        (with_reducible refine hh.mono ?_)
        rintro e' w' ⟨A3, m3, c3, rfl, hm3, ho, hb⟩
        subst hm3
        go_simp
        exact hK _ _ (Below.step hJ hb) hb ⟨A3, c3, rfl, ho.cap.1, (ownF_rowP ho).wide fun i hi => Nat.le_trans hJ.size hi⟩
      refine Inv.from_cons _ _ _ _ rfl (fun _ a w hJ hF F K hK => ?_) ?_
      · have hz : a.tmps.size = 44 := hF.size
        obtain ⟨x17, e17, f8⟩ : ∃ xv, a.tmps[17]? = some xv ∧ TkO W.heap.size 0 l false xv w := ⟨_, Inv2.some_slot (by rw [hz]; exact Nat.le_of_ble_eq_true rfl) rfl, F 8 (by kernel_rfl) 17 rfl⟩
        clear F hF hz
        go_simp
        exact hK _ _ hJ (Below.refl _ _) f8
      refine Inv.from_cons _ _ _ _ rfl (fun _ a w hJ hF F K hK => ?_) ?_
      · have hz : a.tmps.size = 44 := hF.size
        obtain ⟨x8, e8, f9⟩ : ∃ xv, a.tmps[8]? = some xv ∧ TkO W.heap.size 0 l false xv w := ⟨_, Inv2.some_slot (by rw [hz]; exact Nat.le_of_ble_eq_true rfl) rfl, F 9 (by kernel_rfl) 8 rfl⟩
        clear F hF hz
        obtain ⟨A3, c3, hx, h1, h2⟩ := f9
        subst hx
        go_simp
        exact hK (.int .i64 0) _ hJ (Below.refl _ _) rfl
      refine Inv.from_cons _ _ _ _ rfl (fun _ a w hJ hF F K hK => ?_) ?_
      · have hz : a.tmps.size = 44 := hF.size
        obtain ⟨x8, e8, f9⟩ : ∃ xv, a.tmps[8]? = some xv ∧ TkO W.heap.size 0 l false xv w := ⟨_, Inv2.some_slot (by rw [hz]; exact Nat.le_of_ble_eq_true rfl) rfl, F 9 (by kernel_rfl) 8 rfl⟩
        clear F hF hz
        obtain ⟨A3, c3, hx, h1, h2⟩ := f9
        subst hx
        go_simp
        exact hK _ _ hJ (Below.refl _ _) ⟨A3, c3, rfl, h1, h2⟩
      refine Inv.from_cons _ _ _ _ rfl (fun _ a w hJ hF F K hK => ?_) ?_
      · have hz : a.tmps.size = 44 := hF.size
        obtain ⟨x8, e8, f9⟩ : ∃ xv, a.tmps[8]? = some xv ∧ TkO W.heap.size 0 l false xv w := ⟨_, Inv2.some_slot (by rw [hz]; exact Nat.le_of_ble_eq_true rfl) rfl, F 9 (by kernel_rfl) 8 rfl⟩
        clear F hF hz
        obtain ⟨A3, c3, hx, h1, h2⟩ := f9
        subst hx
        go_simp
        exact hK (.bool false) _ hJ (Below.refl _ _) rfl
      refine Inv.from_cons _ _ _ _ rfl (fun _ a w hJ hF F K hK => ?_) ?_
      · have hz : a.tmps.size = 44 := hF.size
        have e9 : a.tmps[9]? = some (.pointer (some ⟨p, 0, none⟩)) := Inv2.some_slot (by rw [hz]; exact Nat.le_of_ble_eq_true rfl) (F 0 (by kernel_rfl) 9 rfl)
        have e10 : a.tmps[10]? = some (.pointer (some ⟨p, 0, none⟩)) := Inv2.some_slot (by rw [hz]; exact Nat.le_of_ble_eq_true rfl) (F 1 (by kernel_rfl) 10 rfl)
        have e11 : a.tmps[11]? = some (.pointer (some ⟨p, 9, none⟩)) := Inv2.some_slot (by rw [hz]; exact Nat.le_of_ble_eq_true rfl) (F 2 (by kernel_rfl) 11 rfl)
        have e12 : a.tmps[12]? = some (.slice C P.fl.length c) := Inv2.some_slot (by rw [hz]; exact Nat.le_of_ble_eq_true rfl) (F 3 (by kernel_rfl) 12 rfl)
        have e13 : a.tmps[13]? = some (.pointer (some ⟨p, 0, none⟩)) := Inv2.some_slot (by rw [hz]; exact Nat.le_of_ble_eq_true rfl) (F 4 (by kernel_rfl) 13 rfl)
        have e14 : a.tmps[14]? = some (.pointer (some ⟨p, 0, none⟩)) := Inv2.some_slot (by rw [hz]; exact Nat.le_of_ble_eq_true rfl) (F 5 (by kernel_rfl) 14 rfl)
        have e15 : a.tmps[15]? = some (.pointer (some ⟨p, 11, none⟩)) := Inv2.some_slot (by rw [hz]; exact Nat.le_of_ble_eq_true rfl) (F 6 (by kernel_rfl) 15 rfl)
        have e16 : a.tmps[16]? = some (.int .i64 P.od) := Inv2.some_slot (by rw [hz]; exact Nat.le_of_ble_eq_true rfl) (F 7 (by kernel_rfl) 16 rfl)
        obtain ⟨x17, e17, f8⟩ : ∃ xv, a.tmps[17]? = some xv ∧ TkO W.heap.size 0 l false xv w := ⟨_, Inv2.some_slot (by rw [hz]; exact Nat.le_of_ble_eq_true rfl) rfl, F 8 (by kernel_rfl) 17 rfl⟩
        obtain ⟨x8, e8, f9⟩ : ∃ xv, a.tmps[8]? = some xv ∧ TkO W.heap.size 0 l false xv w := ⟨_, Inv2.some_slot (by rw [hz]; exact Nat.le_of_ble_eq_true rfl) rfl, F 9 (by kernel_rfl) 8 rfl⟩
        have e18 : a.tmps[18]? = some (.int .i64 0) := Inv2.some_slot (by rw [hz]; exact Nat.le_of_ble_eq_true rfl) (F 10 (by kernel_rfl) 18 rfl)
        clear F hF hz
        go_simp
        exact hK (.int .i64 0) _ hJ (Below.refl _ _) rfl
      refine Inv.from_cons _ _ _ _ rfl (fun _ a w hJ hF F K hK => ?_) ?_
      · have hz : a.tmps.size = 44 := hF.size
        have e9 : a.tmps[9]? = some (.pointer (some ⟨p, 0, none⟩)) := Inv2.some_slot (by rw [hz]; exact Nat.le_of_ble_eq_true rfl) (F 0 (by kernel_rfl) 9 rfl)
        have e10 : a.tmps[10]? = some (.pointer (some ⟨p, 0, none⟩)) := Inv2.some_slot (by rw [hz]; exact Nat.le_of_ble_eq_true rfl) (F 1 (by kernel_rfl) 10 rfl)
        have e11 : a.tmps[11]? = some (.pointer (some ⟨p, 9, none⟩)) := Inv2.some_slot (by rw [hz]; exact Nat.le_of_ble_eq_true rfl) (F 2 (by kernel_rfl) 11 rfl)
        have e12 : a.tmps[12]? = some (.slice C P.fl.length c) := Inv2.some_slot (by rw [hz]; exact Nat.le_of_ble_eq_true rfl) (F 3 (by kernel_rfl) 12 rfl)
        have e13 : a.tmps[13]? = some (.pointer (some ⟨p, 0, none⟩)) := Inv2.some_slot (by rw [hz]; exact Nat.le_of_ble_eq_true rfl) (F 4 (by kernel_rfl) 13 rfl)
        have e14 : a.tmps[14]? = some (.pointer (some ⟨p, 0, none⟩)) := Inv2.some_slot (by rw [hz]; exact Nat.le_of_ble_eq_true rfl) (F 5 (by kernel_rfl) 14 rfl)
        have e15 : a.tmps[15]? = some (.pointer (some ⟨p, 11, none⟩)) := Inv2.some_slot (by rw [hz]; exact Nat.le_of_ble_eq_true rfl) (F 6 (by kernel_rfl) 15 rfl)
        have e16 : a.tmps[16]? = some (.int .i64 P.od) := Inv2.some_slot (by rw [hz]; exact Nat.le_of_ble_eq_true rfl) (F 7 (by kernel_rfl) 16 rfl)
        obtain ⟨x17, e17, f8⟩ : ∃ xv, a.tmps[17]? = some xv ∧ TkO W.heap.size 0 l false xv w := ⟨_, Inv2.some_slot (by rw [hz]; exact Nat.le_of_ble_eq_true rfl) rfl, F 8 (by kernel_rfl) 17 rfl⟩
        obtain ⟨x8, e8, f9⟩ : ∃ xv, a.tmps[8]? = some xv ∧ TkO W.heap.size 0 l false xv w := ⟨_, Inv2.some_slot (by rw [hz]; exact Nat.le_of_ble_eq_true rfl) rfl, F 9 (by kernel_rfl) 8 rfl⟩
        have e18 : a.tmps[18]? = some (.int .i64 0) := Inv2.some_slot (by rw [hz]; exact Nat.le_of_ble_eq_true rfl) (F 10 (by kernel_rfl) 18 rfl)
        obtain ⟨x19, e19, f11⟩ : ∃ xv, a.tmps[19]? = some xv ∧ FrO W.heap.size l xv w := ⟨_, Inv2.some_slot (by rw [hz]; exact Nat.le_of_ble_eq_true rfl) rfl, F 11 (by kernel_rfl) 19 rfl⟩
        have e5 : a.tmps[5]? = some (.int .i64 0) := Inv2.some_slot (by rw [hz]; exact Nat.le_of_ble_eq_true rfl) (F 13 (by kernel_rfl) 5 rfl)
        clear F hF hz
        go_simp
        exact hK _ _ hJ (Below.refl _ _) f11
      refine Inv.from_skip _ _ _ _ rfl ?_
      exact Inv.from_end _ _ _ _ (by decide +kernel)
    · intro o ho a w hJ hF F K hK
      injection (show some _ = some o from ho) with ho
      subst ho
      obtain ⟨f, hf⟩ : ∃ f : Nat → Value, ∀ i, a.tmps.getD i undef = f i := ⟨_, fun _ => rfl⟩
      have g0 : f 0 = (.pointer (some ⟨p, 0, none⟩)) := (hf 0).symm.trans (hF.slot 0 (by kernel_rfl))
      have g2 : f 2 = (.int .i64 0) := (hf 2).symm.trans (hF.slot 2 (by kernel_rfl))
      have g3 : f 3 = (.slice none 0 0) := (hf 3).symm.trans (hF.slot 3 (by kernel_rfl))
      have g4 : f 4 = (.int .i64 0) := (hf 4).symm.trans (hF.slot 4 (by kernel_rfl))
      have g9 : f 9 = (.pointer (some ⟨p, 0, none⟩)) := (hf 9).symm.trans (F 0 (by decide) 9 rfl)
      have g10 : f 10 = (.pointer (some ⟨p, 0, none⟩)) := (hf 10).symm.trans (F 1 (by decide) 10 rfl)
      have g11 : f 11 = (.pointer (some ⟨p, 9, none⟩)) := (hf 11).symm.trans (F 2 (by decide) 11 rfl)
      have g12 : f 12 = (.slice C P.fl.length c) := (hf 12).symm.trans (F 3 (by decide) 12 rfl)
      have g13 : f 13 = (.pointer (some ⟨p, 0, none⟩)) := (hf 13).symm.trans (F 4 (by decide) 13 rfl)
      have g14 : f 14 = (.pointer (some ⟨p, 0, none⟩)) := (hf 14).symm.trans (F 5 (by decide) 14 rfl)
      have g15 : f 15 = (.pointer (some ⟨p, 11, none⟩)) := (hf 15).symm.trans (F 6 (by decide) 15 rfl)
      have g16 : f 16 = (.int .i64 P.od) := (hf 16).symm.trans (F 7 (by decide) 16 rfl)
      obtain ⟨x17, g17⟩ : ∃ x, f 17 = x := ⟨_, rfl⟩
      have f8 : TkO W.heap.size 0 l false x17 w := by rw [← g17, ← hf 17]; exact F 8 (by decide) 17 rfl
      obtain ⟨x8, g8⟩ : ∃ x, f 8 = x := ⟨_, rfl⟩
      have f9 : TkO W.heap.size 0 l false x8 w := by rw [← g8, ← hf 8]; exact F 9 (by decide) 8 rfl
      have g18 : f 18 = (.int .i64 0) := (hf 18).symm.trans (F 10 (by decide) 18 rfl)
      obtain ⟨x19, g19⟩ : ∃ x, f 19 = x := ⟨_, rfl⟩
      have f11 : FrO W.heap.size l x19 w := by rw [← g19, ← hf 19]; exact F 11 (by decide) 19 rfl
      have g20 : f 20 = (.bool false) := (hf 20).symm.trans (F 12 (by decide) 20 rfl)
      have g5 : f 5 = (.int .i64 0) := (hf 5).symm.trans (F 13 (by decide) 5 rfl)
      obtain ⟨x6, g6⟩ : ∃ x, f 6 = x := ⟨_, rfl⟩
      have f14 : FrO W.heap.size l x6 w := by rw [← g6, ← hf 6]; exact F 14 (by decide) 6 rfl
      have ha := Frames.frame (show a.tmps.size = 44 from hF.size) hF.defers hf (l := [f 0, f 1, f 2, f 3, f 4, f 5, f 6, f 7, f 8, f 9, f 10, f 11, f 12, f 13, f 14, f 15, f 16, f 17, f 18, f 19, f 20, f 21, f 22, f 23, f 24, f 25, f 26, f 27, f 28, f 29, f 30, f 31, f 32, f 33, f 34, f 35, f 36, f 37, f 38, f 39, f 40, f 41, f 42, f 43]) rfl
      simp only [g0, g2, g3, g4, g9, g10, g11, g12, g13, g14, g15, g16, g17, g8, g18, g19, g20, g5, g6] at ha
      clear F hF hf g0 g2 g3 g4 g9 g10 g11 g12 g13 g14 g15 g16 g17 g8 g18 g19 g20 g5 g6
      subst ha
      clear f8 f9 f11 f14
      have HB := Lib.hid hJ
      obtain ⟨c2, c9, c11⟩ := HC.out _ hJ
      clear hJ
      go_simp
      refine hK _ _ ?_
      clear hK
      go_upto_region 4 with fail
      go_quiet (fail)
      go_wp2_with fail
      go_ret3
      exact ⟨below_drewN2 HB.out _, Or.inr ⟨by first | trivial | rfl, by first | rfl | simp [hw]⟩⟩
    · intro hq; exact absurd hq (by decide +kernel)
end
end Go.Proofs.YtpidnkfcccboaaaGreat.PagerCode
