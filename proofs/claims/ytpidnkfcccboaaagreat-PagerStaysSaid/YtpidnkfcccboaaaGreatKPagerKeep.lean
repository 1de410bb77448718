/- PagerChain, PagerTellP, PagerTell, PagerKeep. -/
import Derived.Test.YtpidnkfcccboaaaGreatKPagerCells
import Derived.Test.YtpidnkfcccboaaaGreatKPagerChange
import Derived.Test.YtpidnkfcccboaaaGreatKPagerDrop
import Derived.Test.YtpidnkfcccboaaaGreatKSuperPut
namespace Go.Proofs.YtpidnkfcccboaaaGreat.PagerCode
open Go.RowKit Base PagePlain PageSmall FreePlain FreeMem SuperPlain SuperRefCheck PagerPlain PagerTold PagerNum PagerSpec SumOf DiskPlain DiskMem DiskSmall PagerMem PagerDisk Go.Maps

set_option maxRecDepth 100000 in
set_option maxHeartbeats 3200000 in
theorem itemI_any (w : World) (K : Option Addr) (n ck : Nat) (l : List Int) (i : Nat) (z : Int) (hz : z = (i : Int)) (hn : n = l.length) (hr : Row w w.heap.size K (intsV l)) (hl : l.length ≤ 100000) : Calls Tryz.prog 54 #[.slice K n ck, .int .i64 z] w fun e w' => e = .returned (.int .i64 (l.getD i 0)) ∧ w = w' := by
 subst hz
 by_cases h : i < l.length
 ·obtain ⟨ad, hA, _, hc⟩ := hr.get i (by simpa [intsV] using h)
  subst hA
  have hc1 : w.cell? (ad.add i) = some (.int .i64 (l.getD i 0)) := by rw [hc, getD_of h]; simp [intsV]
  have hlt : i < n := by omega
  have hnl : n ≤ 100000 := by omega
  generalize l.getD i 0 = v at *
  clear hr hc hn h
  go_enter Tryz.func54, Tryz.ntmps54
  go_wp2_with fail
  go_ret
  exact ⟨rfl, rfl⟩
 ·have hv : l.getD i 0 = 0 := by simp [List.getD, List.getElem?_eq_none (show l.length ≤ i by omega)]
  have hlt : ¬ i < n := by omega
  have hnl : n ≤ 100000 := by omega
  rw [hv]
  clear hr hn h hv
  go_enter Tryz.func54, Tryz.ntmps54
  go_wp2_with fail
  go_ret
  exact ⟨rfl, rfl⟩
set_option maxRecDepth 100000 in
set_option maxHeartbeats 3200000 in
theorem itemS_any (w : World) (K : Option Addr) (n ck : Nat) (vs : List Value) (i : Nat) (z : Int) (hz : z = (i : Int)) (hn : n = vs.length) (hr : Row w w.heap.size K vs) (hl : vs.length ≤ 100000) : Calls Tryz.prog 89 #[.slice K n ck, .int .i64 z] w fun e w' => e = .returned (vs.getD i (.slice none 0 0)) ∧ w = w' := by
 subst hz
 by_cases h : i < vs.length
 ·obtain ⟨ad, hA, _, hc⟩ := hr.get i h
  subst hA
  have hc1 : w.cell? (ad.add i) = some (vs.getD i (.slice none 0 0)) := by rw [hc, getD_of h]
  have hlt : i < n := by omega
  have hnl : n ≤ 100000 := by omega
  generalize vs.getD i (.slice none 0 0) = v at *
  clear hr hc hn h
  go_enter Tryz.func89, Tryz.ntmps89
  go_wp2_with fail
  go_ret
  exact ⟨rfl, rfl⟩
 ·have hv : vs.getD i (.slice none 0 0) = .slice none 0 0 := by simp [List.getD, List.getElem?_eq_none (show vs.length ≤ i by omega)]
  have hlt : ¬ i < n := by omega
  have hnl : n ≤ 100000 := by omega
  rw [hv]
  clear hr hn h hv
  go_enter Tryz.func89, Tryz.ntmps89
  go_wp2_with fail
  go_ret
  exact ⟨rfl, rfl⟩
/-! taking, whatever the disk has room for -/
def takeV (P : PS) : PS × Int := match first P.od P.fl with
 | (some no, l) => ({ P with fl := l }, no)
 | (none, _) => ({ P with pg := P.pg + 1 }, P.pg)
def takesV : Nat → PS → List Int → PS × List Int
 | 0, P, c => (P, c)
 | f + 1, P, c => if 23 * c.length < P.fl.length then takesV f (takeV P).1 (c ++ [(takeV P).2]) else (P, c)
theorem takesV_end {P : PS} {c : List Int} (h : ¬ 23 * c.length < P.fl.length) : ∀ f, takesV f P c = (P, c)
 | 0 => rfl
 | f + 1 => by simp only [takesV]; rw [if_neg h]
theorem first_len (o : Int) : ∀ l : Fs, (first o l).2.length ≤ l.length
 | [] => by simp [first]
 | q :: l => by
  have := first_len o l
  simp only [first]
  split
  ·simp
  ·simp only [List.length_cons]; omega
theorem takeV_len (P : PS) : (takeV P).1.fl.length ≤ P.fl.length := by
 have := first_len P.od P.fl
 unfold takeV
 split
 ·rename_i h; rw [h] at this; exact this
 ·exact Nat.le_refl _
theorem takeV_pg (P : PS) : P.pg ≤ (takeV P).1.pg ∧ (takeV P).1.pg ≤ P.pg + 1 := by
 unfold takeV
 split
 ·exact ⟨Int.le_refl _, by simp only; omega⟩
 ·exact ⟨by simp only; omega, Int.le_refl _⟩
/-- the part of a pager that the taking reads -/
structure Sv (V Q : PS) : Prop where
 fl : V.fl = Q.fl
 pg : V.pg = Q.pg
 od : V.od = Q.od
 x : V.x = Q.x
 ch : V.ch = Q.ch
 tf : V.tf = Q.tf
 nw : V.nw = V.nw
theorem takesV_mono : ∀ (f : Nat) (V : PS) (c : List Int), V.pg ≤ (takesV f V c).1.pg ∧ c.length ≤ (takesV f V c).2.length
 | 0, V, c => ⟨Int.le_refl _, Nat.le_refl _⟩
 | f + 1, V, c => by
  simp only [takesV]
  split
  ·have h1 := takesV_mono f (takeV V).1 (c ++ [(takeV V).2])
   have h2 := (takeV_pg V).1
   rw [List.length_append] at h1
   exact ⟨Int.le_trans h2 h1.1, by omega⟩
  ·exact ⟨Int.le_refl _, Nat.le_refl _⟩
/-- what taking keeps -/
theorem takesV_kept : ∀ (f : Nat) (V : PS) (c : List Int), (takesV f V c).1 = { V with fl := (takesV f V c).1.fl, pg := (takesV f V c).1.pg }
 | 0, V, c => rfl
 | f + 1, V, c => by
  simp only [takesV]
  split
  ·have h1 := takesV_kept f (takeV V).1 (c ++ [(takeV V).2])
   rw [h1]
   unfold takeV
   split <;> rfl
  ·rfl
theorem takes_V : ∀ (f : Nat) (Q V : PS) (c : List Int), V.fl = Q.fl → V.pg = Q.pg → V.od = Q.od → Q.pg ≤ Q.most →
  (∀ R d, takes f Q c = (R, d, true) → (takesV f V c).2 = d ∧ (takesV f V c).1.fl = R.fl ∧ (takesV f V c).1.pg = R.pg ∧ R.pg ≤ Q.most) ∧
  (∀ R d, takes f Q c = (R, d, false) → Q.most < (takesV f V c).1.pg ∧ c.length < (takesV f V c).2.length)
 | 0, Q, V, c, h1, h2, h3, h4 => by
  refine ⟨fun R d h => ?_, fun R d h => ?_⟩
  ·simp only [takes, Prod.mk.injEq] at h
   obtain ⟨rfl, rfl, _⟩ := h
   exact ⟨rfl, h1, h2, h4⟩
  ·simp [takes] at h
 | f + 1, Q, V, c, h1, h2, h3, h4 => by
  have ev : takesV (f + 1) V c = if 23 * c.length < V.fl.length then takesV f (takeV V).1 (c ++ [(takeV V).2]) else (V, c) := rfl
  have eq : takes (f + 1) Q c = if 23 * c.length < Q.fl.length then match Q.take with
   | none => (Q, c, false)
   | some (R, no) => takes f R (c ++ [no]) else (Q, c, true) := rfl
  rw [ev, eq, h1]
  clear ev eq
  by_cases hlt : 23 * c.length < Q.fl.length
  rotate_left
  ·rw [if_neg hlt, if_neg hlt]
   refine ⟨fun R d h => ?_, fun R d h => ?_⟩
   ·simp only [Prod.mk.injEq] at h
    obtain ⟨rfl, rfl, _⟩ := h
    exact ⟨rfl, h1, h2, h4⟩
   ·simp at h
  rw [if_pos hlt, if_pos hlt]
  cases hf : first Q.od Q.fl with
  | mk o l =>
   cases o with
   | some no =>
    have e1 : Q.take = some ({ Q with fl := l, nw := Q.nw ++ [no] }, no) := by unfold PS.take; rw [hf]
    have e2 : takeV V = ({ V with fl := l }, no) := by unfold takeV; rw [h3, h1, hf]
    rw [e1, e2]
    obtain ⟨ra, rb⟩ := takes_V f { Q with fl := l, nw := Q.nw ++ [no] } { V with fl := l } (c ++ [no]) rfl h2 h3 h4
    exact ⟨ra, fun R d h => ⟨(rb R d h).1, Nat.lt_trans (by simp) (rb R d h).2⟩⟩
   | none =>
    have e2 : takeV V = ({ V with pg := V.pg + 1 }, V.pg) := by unfold takeV; rw [h3, h1, hf]
    by_cases hm : Q.pg + 1 > Q.most
    ·have e1 : Q.take = none := by unfold PS.take; rw [hf]; simp only; rw [if_pos hm]
     rw [e1, e2]
     refine ⟨fun R d h => ?_, fun R d h => ?_⟩
     ·simp at h
     ·obtain ⟨h6, h7⟩ := takesV_mono f { V with pg := V.pg + 1 } (c ++ [V.pg])
      rw [List.length_append] at h7
      exact ⟨Int.lt_of_lt_of_le (show Q.most < V.pg + 1 by omega) h6, Nat.lt_of_lt_of_le (by simp) h7⟩
    ·have e1 : Q.take = some ({ Q with len := max Q.len (Q.pg + 1), pg := Q.pg + 1, nw := Q.nw ++ [Q.pg] }, Q.pg) := by unfold PS.take; rw [hf]; simp only; rw [if_neg hm]
     rw [e1, e2, h2]
     obtain ⟨ra, rb⟩ := takes_V f { Q with len := max Q.len (Q.pg + 1), pg := Q.pg + 1, nw := Q.nw ++ [Q.pg] } { V with pg := Q.pg + 1 } (c ++ [Q.pg]) h1 rfl h3 (by simp only; omega)
     exact ⟨ra, fun R d h => ⟨(rb R d h).1, Nat.lt_trans (by simp) (rb R d h).2⟩⟩
/-- how long a slice is -/
def lenV : Value → Nat
 | .slice _ n _ => n
 | _ => 0
section
variable {W w w' : World} {p d g mp : Nat} {S : DS} {P P' : PS} {X Y G : Blks} {m m' : Int} {nn : Nat} {FD : Blks} {A B C : Option Addr} {a b c : Nat}
/-- the caller's blocks, and that of a row -/
def With (X : Blks) (A : Option Addr) : Blks := fun i => X i ∨ A.map (·.block) = some i
theorem own_far {base ck g k : Nat} {e : TypeId} {K : Option Addr} {vs : List Value} (h : Own w base e K ck vs) (hg : g < base) (u : Value) : Own (w.setCell ⟨g, k, none⟩ u) base e K ck vs :=
 World.ownsRow.kept h (row := some g) ⟨rfl, rfl, rfl, by simp [World.setCell], fun i _ hne => Below.heap_setCell w ⟨g, k, none⟩ u i (fun q => hne (by rw [q]))⟩ (by
  cases K with
  | none => exact .inl rfl
  | some ad =>
   refine .inr fun q => ?_
   have := (h.block ad.block rfl).1
   injection q with q
   omega)
theorem row_one_ (w : World) (v : Value) (t : TypeId) : Row (w.alloc (.cells #[v] t)) (w.alloc (.cells #[v] t)).heap.size (some ⟨w.heap.size, 0, none⟩) [v] := (row_of_block (heap_alloc_new w (.cells #[v] t))).more (by simp)
set_option maxRecDepth 100000 in
set_option maxHeartbeats 6400000 in
theorem takeChain_any (h : Cr W p d g mp S P X m nn FD A B C a b c) (hl : P.fl.length ≤ 1000) (h0 : 0 ≤ P.pg) (h1 : P.pg ≤ 5000) : Calls Tryz.prog 87 #[.pointer (some ⟨p, 0, none⟩)] W fun e w' =>
  ∃ K ck C' c', e = .returned (.slice K (takesV (P.fl.length + 1) P []).2.length ck) ∧ Cr w' p d g mp S (takesV (P.fl.length + 1) P []).1 (With X K) m nn FD A B C' a b c' ∧ Turn (Not X) W w' ∧ RowP w' (fun i => W.heap.size ≤ i) K (intsV (takesV (P.fl.length + 1) P []).2) ∧ (takesV (P.fl.length + 1) P []).2.length ≤ ck := by
 have hpl := h.st.lt
 obtain ⟨R, hR⟩ : ∃ R, takesV (P.fl.length + 1) P [] = R := ⟨_, rfl⟩
 rw [hR]
 have HXL := Lib.hid h.xl
 have HH := Lib.hid (show Cr W p d g mp S P (With X none) m nn FD A B C a b c from h.less fun i hi => hi.elim id fun z => by cases z)
 have HRR := Lib.hid hR
 have HPL := Lib.hid hpl
 clear h hR hpl
 go_enter Tryz.func87, Tryz.ntmps87
 go_wp2_with fail
 go_loopw [3] (fun v wr => ∃ (V : PS) (ch : List Int) (K : Option Addr) (ck : Nat) (C' : Option Addr) (c' : Nat), v = .slice K ch.length ck ∧ ch.length ≤ P.fl.length ∧ V.fl.length ≤ P.fl.length ∧ P.pg ≤ V.pg ∧ V.pg ≤ P.pg + ch.length ∧ Own wr W.heap.size 3 K ck (intsV ch) ∧ Hid (Cr wr p d g mp S V (With X K) m nn FD A B C' a b c') ∧ Hid (Turn (Not X) W wr) ∧ Hid (takesV (P.fl.length + 1 - ch.length) V ch = R)) (fun v _ => P.fl.length + 1 - lenV v)
 case atStart => exact ⟨P, [], none, 0, C, c, rfl, Nat.zero_le _, Nat.le_refl _, Int.le_refl _, by simp, Own.nil _ _ _, HH.out, Turn.refl _ _, HRR.out⟩
 case round =>
  obtain ⟨V, ch, K, ck, C', c', rfl, hch, hvl, hp1, hp2, hown, HC, HT, HTV⟩ := hrel
  have c9 := (pgc HC.out.st).2.2.2.2.1
  by_cases hlt : 23 * ch.length < V.fl.length
  ·have hcond : ((V.fl.length : Int) > (ch.length : Int) * 23) = True := by simp; omega
   have hnx := next_any HC.out (by omega) (by omega) (by omega)
   have HOWN := Lib.hid hown
   have HNX := Lib.hid (show takesV (P.fl.length + 1 - (ch.length + 1)) (takeV V).1 (ch ++ [(takeV V).2]) = R from by
    have := HTV.out
    rw [show P.fl.length + 1 - ch.length = (P.fl.length + 1 - (ch.length + 1)) + 1 by omega] at this
    simp only [takesV] at this
    rwa [if_pos hlt] at this)
   have HPG := Lib.hid (And.intro hp1 hp2)
   have HTL := Lib.hid (And.intro (takeV_len V) (takeV_pg V))
   have hcl : ch.length < P.fl.length := by omega
   clear hown hp1 hp2 hlt
   go_wp2_with fail
   (with_reducible refine hnx.mono ?_)
   clear hnx
   rintro e w1 ⟨b1, hcase⟩
   rcases hcase with ⟨no, l, A2, c2, hff, rfl, hc2, hrl⟩ | ⟨hff, rfl⟩
   ·have h1 := HC.out.below b1
    have HTK := Lib.hid (show takeV V = ({ V with fl := l, pg := V.pg }, no) by unfold takeV; rw [hff])
    have hrow : RowP w1 (Out p g mp FD (With X K)) A2 (fr l) := HC.out.newRow hrl
    obtain ⟨_, h3, t3⟩ := new_tail h1 hrow hc2 (V.pg) (no)
    obtain ⟨w3, hw3⟩ : ∃ v, v = (w1.setCell ⟨p, 9, none⟩ (.slice A2 (l).length c2)).setCell ⟨p, 2, none⟩ (.int .i64 (V.pg)) := ⟨_, rfl⟩
    rw [← hw3] at h3 t3
    have ho3 : Own w3 W.heap.size 3 K ck (intsV ch) := by rw [hw3]; exact own_far (own_far (HOWN.out.later b1) HPL.out _) HPL.out _
    have hlen : (intsV ch).length = ch.length := by simp [intsV]
    have hb4 := al_ w3 (.cells #[.int .i64 (no)] 3)
    have h4 := h3.below hb4
    have hsz := HT.out.size
    have T3 := HT.out.step ((Turn.ofBelow b1).step (t3.mono fun i _ z q => z (Or.inl q)))
    obtain ⟨A5, c5, w5, hrun, ho5, hgr, hloc⟩ := FreeMid.run_append_loc (c2 := 1) 32 el_i (ho3.later hb4) (row_one_ w3 (.int .i64 (no)) 3) (by simp) (by simp [Value.oneCell']) (by rw [hlen]; simp [maxLen]; omega) (by rw [hlen]; simp; omega) (Nat.le_trans T3.size hb4.size)
    rw [hlen] at hrun hgr hloc
    have hob : ∀ i, K.map (·.block) = some i → W.heap.size ≤ i := fun i hi => by
     cases K with
     | none => cases hi
     | some ad => injection hi with hi; have := ((ho3.later hb4).block ad.block rfl).1; rw [← hi]; exact this
    have hgb : ∀ i, (Value.slice K ch.length ck).ownBlock = some i → K.map (·.block) = some i := fun i hi => by
     cases K with
     | none => cases hi
     | some ad => exact hi
    have h5 := h4.moreT (G := fun i => K.map (·.block) = some i) (Turn.ofGrown hgr fun k e _ => hgb k e) fun i _ hx z => hx (Or.inr z)
    have H5 := Lib.hid (h5.less (Y := With X A5) fun i hi => by
     rcases hi with hi | hi
     ·exact Or.inl (Or.inl hi)
     ·cases A5 with
      | none => cases hi
      | some ad =>
       have hi : ad.block = i := Option.some.inj hi
       subst hi
       have hlt5 := (ho5.block ad.block rfl).2
       rcases hloc with q | q
       ·exact Or.inl (Or.inr (hgb _ (by rw [← q]; rfl)))
       ·exact Or.inr ⟨Nat.le_of_eq (Option.some.inj (show some ad.block = some _ from q)).symm, hlt5⟩)
    have T5 := Lib.hid ((T3.step (Turn.ofBelow hb4)).step (Turn.ofGrown hgr fun k e _ => fun q => by have := hob k (hgb k e); have := HXL.out k q; omega))
    have HO5 := Lib.hid (show Own w5 W.heap.size 3 A5 c5 (intsV (ch ++ [no])) by simpa [intsV] using ho5)
    have HW3 := Lib.hid hw3
    have g9 := (pgc h1.st).2.2.2.2.1
    have g2 := (pgc h1.st).1.2.2
    have f9 := h1.st.frozen 9
    have f2 := h1.st.frozen 2
    have e1 : ([.int .i64 (no)] : List Value).length = 1 := rfl
    rw [e1] at hrun
    clear h1 h3 h4 h5 t3 ho3 ho5 hgr hloc hob hgb hw3 hb4 T3 hsz e1 hlen hrow b1 hff c9 hcond
    go_upto_region 5 with fail
    try rw [← HW3.out]
    clear HW3 g9 g2 f9 f2
    go_wp2_with (at_builtin; refine wpList_append_run rfl (.tmp 31) (.tmp 33) 32 32 rfl rfl rfl hrun ?_)
    go_roundw
    case rel => exact ⟨(takeV V).1, ch ++ [no], A5, c5, A2, c2, by simp, by rw [List.length_append]; simp; omega, Nat.le_trans HTL.out.1 hvl, by have := HTL.out.2; have := HPG.out; omega, by rw [List.length_append]; have := HTL.out.2; have := HPG.out; simp; omega, HO5.out, by rw [HTK.out]; exact H5.out, T5.out, by rw [List.length_append]; have := HNX.out; rw [HTK.out] at this ⊢; exact this⟩
    case measure => simp [lenV]; omega
   ·have h1 := HC.out.below b1
    have HTK := Lib.hid (show takeV V = ({ V with fl := V.fl, pg := V.pg + 1 }, V.pg) by
     unfold takeV
     generalize first V.od V.fl = fo at hff
     obtain ⟨o, l⟩ := fo
     simp only at hff
     subst hff
     rfl)
    have hrow := h1.rc
    have hc2 := h1.lc
    obtain ⟨_, h3, t3⟩ := new_tail h1 hrow hc2 (V.pg + 1) (V.pg)
    obtain ⟨w3, hw3⟩ : ∃ v, v = (w1.setCell ⟨p, 9, none⟩ (.slice C' (V.fl).length c')).setCell ⟨p, 2, none⟩ (.int .i64 (V.pg + 1)) := ⟨_, rfl⟩
    rw [← hw3] at h3 t3
    have ho3 : Own w3 W.heap.size 3 K ck (intsV ch) := by rw [hw3]; exact own_far (own_far (HOWN.out.later b1) HPL.out _) HPL.out _
    have hlen : (intsV ch).length = ch.length := by simp [intsV]
    have hb4 := al_ w3 (.cells #[.int .i64 (V.pg)] 3)
    have h4 := h3.below hb4
    have hsz := HT.out.size
    have T3 := HT.out.step ((Turn.ofBelow b1).step (t3.mono fun i _ z q => z (Or.inl q)))
    obtain ⟨A5, c5, w5, hrun, ho5, hgr, hloc⟩ := FreeMid.run_append_loc (c2 := 1) 32 el_i (ho3.later hb4) (row_one_ w3 (.int .i64 (V.pg)) 3) (by simp) (by simp [Value.oneCell']) (by rw [hlen]; simp [maxLen]; omega) (by rw [hlen]; simp; omega) (Nat.le_trans T3.size hb4.size)
    rw [hlen] at hrun hgr hloc
    have hob : ∀ i, K.map (·.block) = some i → W.heap.size ≤ i := fun i hi => by
     cases K with
     | none => cases hi
     | some ad => injection hi with hi; have := ((ho3.later hb4).block ad.block rfl).1; rw [← hi]; exact this
    have hgb : ∀ i, (Value.slice K ch.length ck).ownBlock = some i → K.map (·.block) = some i := fun i hi => by
     cases K with
     | none => cases hi
     | some ad => exact hi
    have h5 := h4.moreT (G := fun i => K.map (·.block) = some i) (Turn.ofGrown hgr fun k e _ => hgb k e) fun i _ hx z => hx (Or.inr z)
    have H5 := Lib.hid (h5.less (Y := With X A5) fun i hi => by
     rcases hi with hi | hi
     ·exact Or.inl (Or.inl hi)
     ·cases A5 with
      | none => cases hi
      | some ad =>
       have hi : ad.block = i := Option.some.inj hi
       subst hi
       have hlt5 := (ho5.block ad.block rfl).2
       rcases hloc with q | q
       ·exact Or.inl (Or.inr (hgb _ (by rw [← q]; rfl)))
       ·exact Or.inr ⟨Nat.le_of_eq (Option.some.inj (show some ad.block = some _ from q)).symm, hlt5⟩)
    have T5 := Lib.hid ((T3.step (Turn.ofBelow hb4)).step (Turn.ofGrown hgr fun k e _ => fun q => by have := hob k (hgb k e); have := HXL.out k q; omega))
    have HO5 := Lib.hid (show Own w5 W.heap.size 3 A5 c5 (intsV (ch ++ [V.pg])) by simpa [intsV] using ho5)
    have HW3 := Lib.hid hw3
    have g9 := (pgc h1.st).2.2.2.2.1
    have g2 := (pgc h1.st).1.2.2
    have f9 := h1.st.frozen 9
    have f2 := h1.st.frozen 2
    have e1 : ([.int .i64 (V.pg)] : List Value).length = 1 := rfl
    rw [e1] at hrun
    clear h1 h3 h4 h5 t3 ho3 ho5 hgr hloc hob hgb hw3 hb4 T3 hsz e1 hlen hrow b1 hff c9 hcond
    go_upto_region 5 with fail
    try rw [← HW3.out]
    clear HW3 g9 g2 f9 f2
    go_wp2_with (at_builtin; refine wpList_append_run rfl (.tmp 31) (.tmp 33) 32 32 rfl rfl rfl hrun ?_)
    go_roundw
    case rel => exact ⟨(takeV V).1, ch ++ [V.pg], A5, c5, C', c', by simp, by rw [List.length_append]; simp; omega, Nat.le_trans HTL.out.1 hvl, by have := HTL.out.2; have := HPG.out; omega, by rw [List.length_append]; have := HTL.out.2; have := HPG.out; simp; omega, HO5.out, by rw [HTK.out]; exact H5.out, T5.out, by rw [List.length_append]; have := HNX.out; rw [HTK.out] at this ⊢; exact this⟩
    case measure => simp [lenV]; omega
  ·have hcond : ((V.fl.length : Int) > (ch.length : Int) * 23) = False := by simp; omega
   have HEND := Lib.hid (show (V, ch) = R from by rw [← HTV.out, takesV_end hlt])
   have HO := Lib.hid (And.intro (own_rowP_ hown) (show ch.length ≤ ck from by have := hown.cap.1; simpa [intsV] using this))
   clear hlt hown
   go_wp2_with fail
   go_ret
   exact ⟨K, ck, C', c', by rw [← HEND.out]; rfl, by rw [← HEND.out]; exact HC.out, HT.out, by rw [← HEND.out]; exact HO.out.1, by rw [← HEND.out]; exact HO.out.2⟩
end
end Go.Proofs.YtpidnkfcccboaaaGreat.PagerCode
namespace Go.Proofs.YtpidnkfcccboaaaGreat.PagerTellP
open PagePlain FreePlain FreePlain2 FreeCellsOf FreePages SuperPlain PagerPlain PagerTold PagerNum PagerCode

theorem ins_len {g e : Int} : ∀ l : Fs, (ins g e l).length ≤ l.length + 1
 | [] => by simp [ins]
 | q :: l => by
  have := ins_len (g := g) (e := e) l
  simp only [ins]
  split
  ·simp only [List.length_cons]; omega
  ·split <;> simp
theorem freed_len (e : Int) : ∀ (c : List Int) (l : Fs), (c.foldl (fun l n => ins n e l) l).length ≤ l.length + c.length
 | [], l => Nat.le_refl _
 | n :: c, l => by
  have h1 := freed_len e c (ins n e l)
  have h2 := ins_len (g := n) (e := e) l
  simp only [List.foldl_cons, List.length_cons]
  omega
/-- what is read behind so many pages of a chain -/
def rdw (ep : Int) (c : List Int) (l : Fs) (r : Int → By) : Nat → Int → By
 | 0 => r
 | k + 1 => fun q => if q = c.getD k 0 then page (chainPg ep c l k) else rdw ep c l r k q
theorem rdw_at {ep : Int} {c : List Int} {l : Fs} {r : Int → By} (hn : c.Nodup) : ∀ k, k ≤ c.length → ∀ q, rdw ep c l r k q = match c.idxOf? q with
  | some i => if i < k then page (chainPg ep c l i) else r q
  | none => r q
 | 0, _, q => by
  show r q = _
  cases c.idxOf? q <;> simp
 | k + 1, hk, q => by
  have ih := rdw_at (ep := ep) (l := l) (r := r) hn k (by omega) q
  show (if q = c.getD k 0 then page (chainPg ep c l k) else rdw ep c l r k q) = _
  rw [ih]
  by_cases e : q = c.getD k 0
  ·rw [if_pos e]
   have e2 : q = c[k]'(by omega) := by rw [e, getD_of (show k < c.length by omega)]
   have e3 : c.idxOf? q = some k := by rw [e2]; exact idx_of hn (by omega)
   rw [e3]
   simp only
   rw [if_pos (by omega)]
  ·rw [if_neg e]
   cases hi : c.idxOf? q with
   | none => rfl
   | some i =>
    simp only
    have hik : i ≠ k := by
     rintro rfl
     obtain ⟨h1, h2, _⟩ := List.idxOf?_eq_some_iff.1 hi
     have h3 : c[i] = q := by simpa using h2
     exact e (by rw [getD_of h1]; exact h3.symm)
    by_cases h : i < k
    ·rw [if_pos h, if_pos (by omega)]
    ·rw [if_neg h, if_neg (by omega)]
theorem shape_at : ∀ {cs : Cs} {T : List ByteArray}, Shape cs → cs.flatten = T → ∀ i, cs.getD i [] = (T.drop (23 * i)).take 23
 | [], T, _, h, i => by
  subst h
  simp
 | c :: cs, T, hs, h, i => by
  obtain ⟨h1, h2⟩ := shape_take hs
  rw [h] at h1 h2
  cases i with
  | zero => simpa using h1.symm
  | succ i =>
   have ih := shape_at (shape_tail hs) h2.symm i
   rw [List.getD_cons_succ, ih, List.drop_drop]
   congr 2
   omega
theorem pages_at {cs : Cs} {l : Fs} (h : PagesOf cs l) (i : Nat) : cs.getD i [] = cellsAt l i := shape_at h.1 h.2 i
theorem tot_small (k : Nat) : ∀ cs : List ByteArray, (∀ q ∈ cs, q.size = k) → tot cs = k * cs.length
 | [], _ => rfl
 | c :: cs, h => by
  have h1 := tot_small k cs fun q hq => h q (by simp [hq])
  have h2 := h c (by simp)
  simp only [tot, List.length_cons] at h1 ⊢
  rw [h1, h2, Nat.mul_add]
  omega
theorem cellsAt_size {l : Fs} {i : Nat} : ∀ q ∈ cellsAt l i, q.size = 8 := fun q hq => by
 obtain ⟨x, _, rfl⟩ := List.mem_map.1 (List.mem_of_mem_drop (List.mem_of_mem_take hq))
 exact cell_size x
theorem cellsAt_len (l : Fs) (i : Nat) : (cellsAt l i).length ≤ 23 := by unfold cellsAt; rw [List.length_take]; omega
theorem chain_err {ep : Int} {c : List Int} {l : Fs} {i : Nat} (h1 : 0 ≤ ep) (h2 : ep ≤ 4294967295) (hc : ∀ n ∈ c, 0 ≤ n ∧ n ≤ 100000) : err (chainPg ep c l i) = 0 := by
 have hg : ∀ j, 0 ≤ c.getD j 0 ∧ c.getD j 0 ≤ 100000 := fun j => by
  by_cases h : j < c.length
  ·rw [getD_of h]; exact hc _ (List.getElem_mem h)
  ·rw [show c.getD j 0 = 0 by simp [List.getD, List.getElem?_eq_none (show c.length ≤ j by omega)]]; omega
 have a := hg i
 have b := hg (i + 1)
 refine (PagePut.err_zero _).2 ⟨?_, ?_⟩
 ·show room (cellsAt l i) ≤ 236
  unfold room
  rw [tot_small 8 _ cellsAt_size]
  have := cellsAt_len l i
  omega
 ·show 1 ≤ (3 : Int) ∧ (3 : Int) ≤ 255 ∧ 0 ≤ c.getD i 0 ∧ c.getD i 0 ≤ 4294967295 ∧ 0 ≤ ep ∧ ep ≤ 4294967295 ∧ 0 ≤ c.getD (i + 1) 0 ∧ c.getD (i + 1) 0 ≤ 4294967295
  omega
theorem takesV_in : ∀ (f : Nat) (V : PS) (c : List Int), (∀ n ∈ c, 0 ≤ n ∧ n ≤ 100000) → (∀ q ∈ V.fl, 0 ≤ q.1 ∧ q.1 ≤ 100000) → 0 ≤ V.pg → V.pg + f ≤ 100000 → ∀ n ∈ (takesV f V c).2, 0 ≤ n ∧ n ≤ 100000
 | 0, V, c, hc, _, _, _ => hc
 | f + 1, V, c, hc, hf, h0, h1 => by
  simp only [takesV]
  split
  ·cases hfi : first V.od V.fl with
   | mk o l =>
    cases o with
    | some no =>
     have e2 : takeV V = ({ V with fl := l }, no) := by unfold takeV; rw [hfi]
     obtain ⟨e, _, hp⟩ := first_perm hfi
     rw [e2]
     refine takesV_in f { V with fl := l } (c ++ [no]) (fun n hn => ?_) (fun q hq => hf q (hp.mem_iff.2 (List.mem_cons_of_mem _ hq))) h0 (by simp only; omega)
     rcases List.mem_append.1 hn with hn | hn
     ·exact hc n hn
     ·rw [List.mem_singleton.1 hn]
      exact hf (no, e) (hp.mem_iff.2 (by simp))
    | none =>
     have e2 : takeV V = ({ V with pg := V.pg + 1 }, V.pg) := by unfold takeV; rw [hfi]
     rw [e2]
     refine takesV_in f { V with pg := V.pg + 1 } (c ++ [V.pg]) (fun n hn => ?_) hf (by simp only; omega) (by simp only; omega)
     rcases List.mem_append.1 hn with hn | hn
     ·exact hc n hn
     ·rw [List.mem_singleton.1 hn]
      omega
  ·exact hc
theorem takes_len : ∀ (f : Nat) {Q R : PS} {c d : List Int} {b : Bool}, Q.pg ≤ Q.len → takes f Q c = (R, d, b) → R.len = max Q.len R.pg
 | 0, Q, R, c, d, b, h1, h => by
  simp only [takes, Prod.mk.injEq] at h
  obtain ⟨rfl, _, _⟩ := h
  omega
 | f + 1, Q, R, c, d, b, h1, h => by
  simp only [takes] at h
  split at h
  ·split at h
   ·simp only [Prod.mk.injEq] at h
    obtain ⟨rfl, _, _⟩ := h
    omega
   ·rename_i Q2 no ht
    unfold PS.take at ht
    split at ht
    ·injection ht with ht
     injection ht with ht1 ht2
     subst ht1
     have h3 := takes_len f (by exact h1) h
     exact h3
    ·split at ht
     ·cases ht
     ·injection ht with ht
      injection ht with ht1 ht2
      subst ht1
      have h3 := takes_len f (Q := { Q with len := max Q.len (Q.pg + 1), pg := Q.pg + 1, nw := Q.nw ++ [Q.pg] }) (by simp only; omega) h
      have h4 := takes_pg f h
      simp only at h3 h4
      omega
  ·simp only [Prod.mk.injEq] at h
   obtain ⟨rfl, _, _⟩ := h
   omega
where
 takes_pg : ∀ (f : Nat) {Q R : PS} {c d : List Int} {b : Bool}, takes f Q c = (R, d, b) → Q.pg ≤ R.pg
 | 0, Q, R, c, d, b, h => by
  simp only [takes, Prod.mk.injEq] at h
  obtain ⟨rfl, _, _⟩ := h
  omega
 | f + 1, Q, R, c, d, b, h => by
  simp only [takes] at h
  split at h
  ·split at h
   ·simp only [Prod.mk.injEq] at h
    obtain ⟨rfl, _, _⟩ := h
    omega
   ·rename_i Q2 no ht
    have h2 := takes_pg f h
    unfold PS.take at ht
    split at ht
    ·injection ht with ht
     injection ht with ht1 ht2
     subst ht1
     exact h2
    ·split at ht
     ·cases ht
     ·injection ht with ht
      injection ht with ht1 ht2
      subst ht1
      simp only at h2
      omega
  ·simp only [Prod.mk.injEq] at h
   obtain ⟨rfl, _, _⟩ := h
   omega
theorem takes_nil {f : Nat} {Q R : PS} {b : Bool} (hi : Inv Q) (h : takes f Q [] = (R, [], b)) (hb : b = true) : R = Q := by
 subst hb
 cases f with
 | zero => simp only [takes, Prod.mk.injEq] at h; exact h.1.symm
 | succ f =>
  simp only [takes] at h
  split at h
  ·split at h
   ·simp at h
   ·rename_i Q2 no ht
    obtain ⟨e, he, _⟩ := (takes_many f (take_some hi ht).inv h).out
    simp at he
  ·simp only [Prod.mk.injEq] at h
   exact h.1.symm
theorem takesV_sub : ∀ (f : Nat) (V : PS) (c : List Int), List.Sublist (takesV f V c).1.fl V.fl
 | 0, V, c => List.Sublist.refl _
 | f + 1, V, c => by
  simp only [takesV]
  split
  ·refine (takesV_sub f _ _).trans ?_
   unfold takeV
   have h1 := first_sub V.od V.fl
   split
   ·rename_i h; rw [h] at h1; exact h1
   ·exact List.Sublist.refl _
  ·exact List.Sublist.refl _
theorem gd_freed {P : PS} (hi : Inv P) (he : P.x.ep ≤ 4000000000) {l : Fs} (h : List.Sublist l P.fl) : Gd l := by
 refine ⟨fun q hq => ?_, hi.rise.sublist h⟩
 have h1 := hi.fr q (h.mem hq)
 have a := hi.len
 have b := hi.most
 have c := hi.m2
 unfold Fit
 omega
end Go.Proofs.YtpidnkfcccboaaaGreat.PagerTellP
namespace Go.Proofs.YtpidnkfcccboaaaGreat.PagerCode
open Go.RowKit Base PagePlain PageSmall FreePlain FreeMem SuperPlain SuperRefCheck PagerPlain PagerTold PagerNum PagerSpec SumOf DiskPlain DiskMem DiskSmall PagerMem PagerDisk Go.Maps
open SumFill (Ready)

section
variable {W w w' : World} {p d g mp : Nat} {S : DS} {P P' : PS} {X Y G : Blks} {m m' : Int} {nn : Nat} {FD : Blks} {A B C : Option Addr} {a b c : Nat}
theorem sup_cells {w : World} {b : Nat} {x : Sp} (h : SuperSpec.Bs w b x) : w.cell? ⟨b, 0, none⟩ = some (.int .i64 x.ep) ∧ w.cell? ⟨b, 1, none⟩ = some (.int .i64 x.root) ∧ w.cell? ⟨b, 2, none⟩ = some (.int .i64 x.free) ∧ w.cell? ⟨b, 3, none⟩ = some (.int .i64 x.pages) :=
 ⟨by rw [At.cell h]; rfl, by rw [At.cell h]; rfl, by rw [At.cell h]; rfl, by rw [At.cell h]; rfl⟩
set_option maxRecDepth 100000 in
set_option maxHeartbeats 6400000 in
theorem writeSuper_any (h : Cr W p d g mp S P X m nn FD A B C a b c) (hm : m ≤ 780000000) (x : Sp) (hx : Ok x) (hf : S.fused = false) (hl : 2 ≤ S.last.length) : Calls Tryz.prog 91 #[.pointer (some ⟨p, 0, none⟩), sv x] W fun e w' =>
  e = .returned (.int .i64 0) ∧ (∃ FD', Cr w' p d g mp (S.write (x.ep % 2) (sbytes x)) P X (m + 4000) nn FD' A B C a b c) ∧ Turn (Not X) W w' := by
 obtain ⟨w1, hw1⟩ : ∃ v, v = W.alloc (.cells #[.int .i64 x.ep, .int .i64 x.root, .int .i64 x.free, .int .i64 x.pages] 29) := ⟨_, rfl⟩
 have b1 : Below W.heap.size W w1 := by rw [hw1]; exact al_ _ _
 have z1 : SuperSpec.Bs w1 W.heap.size x := by rw [hw1]; exact SuperSpec.bs_new W x
 have h1 := h.below b1
 have d1 : Below w1.heap.size w1 w1.drew := (Below.refl _ _).drew
 have h1d := h1.below d1
 have T1 := Lib.hid (show Turn (Not X) W w1.drew from Turn.ofBelow b1.drew)
 obtain ⟨n, n0, n1, hr⟩ := h1d.su
 have hcall := SuperPut.put_any g n w1.drew x hr n0 (by omega)
 have c1 := (pgc h1d.st).1.2.1
 have z1d : SuperSpec.Bs w1.drew W.heap.size x := z1
 obtain ⟨x0, x1, x2, x3⟩ := sup_cells z1d
 have HS := Lib.hid (show ∀ (w' : World), SuperSpec.On g n w1.drew w' → Cr w' p d g mp S P X (m + 3000) nn FD A B C a b c ∧ Turn (Not X) w1.drew w' from fun w' ⟨⟨n', q1, q2, q3⟩, q4⟩ => h1d.sums q4 q3 (by omega) (by omega) (by omega))
 have HXE := Lib.hid (And.intro hx (And.intro hf hl))
 have HW := Lib.hid hw1
 have hw2 := write_live hf (n := x.ep % 2) (b := sbytes x) (by have := hx.1; omega) (by omega) (sbytes_len x)
 have HWL := Lib.hid (And.intro hw2.1 (show (S.write (x.ep % 2) (sbytes x)).loose.length = S.loose.length + 1 by rw [hw2.2]; simp [DS.written]))
 have HLO := Lib.hid h.lo
 generalize hbx : W.heap.size = bx at x0 x1 x2 x3
 clear h h1 h1d hr n0 n1 hw1 b1 z1 z1d d1 hx hf hl hw2
 go_enter Tryz.func91, Tryz.ntmps91
 go_upto_region 1 with fail
 try rw [← HW.out]
 try rw [hbx]
 clear hbx HW
 refine wp_region_any (by kernel_rfl) ?_
 change wpAny _ _ _ _ _ _ _ (World.drew _)
 generalize hu0 : World.drew w1 = u0
 have HCALL := Lib.hid (show Calls Tryz.prog 117 #[.pointer (some ⟨g, 0, none⟩), .agg #[.int .i64 x.ep, .int .i64 x.root, .int .i64 x.free, .int .i64 x.pages]] u0 _ from by rw [← hu0]; exact hcall)
 rw [hu0] at c1 x0 x1 x2 x3
 clear hcall hu0
 refine Reg.take_at (i := 0) (d := 9) (v := ?_) rfl rfl (by kernel_rfl) (by kernel_rfl) (by kernel_rfl) (fun _ _ _ h => h) (Or.inl ⟨by rfl, ?_⟩) ?_
 rotate_left 1
 ·intro w; go_simp <;> with_reducible rfl
 simp only [Act.put, List.setIfInBounds_toArray, List.set_cons_zero, List.set_cons_succ]
 refine Reg.take_at (i := 1) (d := 10) (v := ?_) rfl rfl (by kernel_rfl) (by kernel_rfl) (by kernel_rfl) (fun _ _ _ h => h) (Or.inl ⟨by rfl, ?_⟩) ?_
 rotate_left 1
 ·intro w; go_simp <;> with_reducible rfl
 simp only [Act.put, List.setIfInBounds_toArray, List.set_cons_zero, List.set_cons_succ]
 refine Reg.take_at (i := 2) (d := 11) (v := ?_) rfl rfl (by kernel_rfl) (by kernel_rfl) (by kernel_rfl) (fun _ _ _ h => h) (Or.inl ⟨by rfl, ?_⟩) ?_
 rotate_left 1
 ·intro w; go_simp <;> with_reducible rfl
 simp only [Act.put, List.setIfInBounds_toArray, List.set_cons_zero, List.set_cons_succ]
 refine Reg.take_at (i := 3) (d := 12) (v := ?_) rfl rfl (by kernel_rfl) (by kernel_rfl) (by kernel_rfl) (fun _ _ _ h => h) (Or.inl ⟨by rfl, ?_⟩) ?_
 rotate_left 1
 ·intro w; go_simp <;> with_reducible rfl
 simp only [Act.put, List.setIfInBounds_toArray, List.set_cons_zero, List.set_cons_succ]
 refine wpAny_ready (rs := [4, 5]) (by decide +kernel) (by simp) ?_
 refine AllReady.cons rfl (fun KK hK => ?_) ?_
 ·go_simp
  refine hK _ _ ?_
  clear hK KK
  refine wpAny_ready (rs := [5]) (by decide +kernel) (by simp) ?_
  refine AllReady.cons rfl (fun KK hK => ?_) AllReady.nil
  go_simp
  refine hK _ _ ?_
  clear hK KK
  refine wpAny_ready (rs := [6]) (by decide +kernel) (by simp) ?_
  refine AllReady.cons rfl (fun KK hK => ?_) AllReady.nil
  go_simp
  (with_reducible refine (HCALL.out).mono ?_)
  rintro e u1 ⟨hon, hres⟩
  rcases hres with ⟨_, bk, t, rfl, hbk, har⟩ | ⟨hno, _⟩
  rotate_left
  ·exact absurd HXE.out.1 hno
  go_simp
  refine hK _ _ ?_
  clear hK KK
  refine Reg.take_at (i := 7) (d := 8) (v := ?_) rfl rfl (by kernel_rfl) (by kernel_rfl) (by kernel_rfl) (fun _ _ _ h => h) (Or.inl ⟨by rfl, ?_⟩) ?_
  rotate_left 1
  ·intro w; go_simp <;> with_reducible rfl
  simp only [Act.put, List.setIfInBounds_toArray, List.set_cons_zero, List.set_cons_succ]
  refine Reg.take_at (i := 8) (d := 16) (v := ?_) rfl rfl (by kernel_rfl) (by kernel_rfl) (by kernel_rfl) (fun _ _ _ h => h) (Or.inl ⟨by rfl, ?_⟩) ?_
  rotate_left 1
  ·intro w; go_simp <;> with_reducible rfl
  simp only [Act.put, List.setIfInBounds_toArray, List.set_cons_zero, List.set_cons_succ]
  refine Reg.take_at (i := 9) (d := 17) (v := ?_) rfl rfl (by kernel_rfl) (by kernel_rfl) (by kernel_rfl) (fun _ _ _ h => h) (Or.inl ⟨by rfl, ?_⟩) ?_
  rotate_left 1
  ·intro w; go_simp <;> with_reducible rfl
  simp only [Act.put, List.setIfInBounds_toArray, List.set_cons_zero, List.set_cons_succ]
  refine Reg.take_at (i := 10) (d := 18) (v := ?_) rfl rfl (by kernel_rfl) (by kernel_rfl) (by kernel_rfl) (fun _ _ _ h => h) (Or.inl ⟨by rfl, ?_⟩) ?_
  rotate_left 1
  ·intro w; go_simp <;> with_reducible rfl
  simp only [Act.put, List.setIfInBounds_toArray, List.set_cons_zero, List.set_cons_succ]
  refine Reg.take_at (i := 11) (d := 5) (v := ?_) rfl rfl (by kernel_rfl) (by kernel_rfl) (by kernel_rfl) (fun _ _ _ h => h) (Or.inl ⟨by rfl, ?_⟩) ?_
  rotate_left 1
  ·intro w; go_simp <;> with_reducible rfl
  simp only [Act.put, List.setIfInBounds_toArray, List.set_cons_zero, List.set_cons_succ]
  refine Reg.take_at (i := 12) (d := 6) (v := ?_) rfl rfl (by kernel_rfl) (by kernel_rfl) (by kernel_rfl) (fun _ _ _ h => h) (Or.inl ⟨by rfl, ?_⟩) ?_
  rotate_left 1
  ·intro w; go_simp <;> with_reducible rfl
  simp only [Act.put, List.setIfInBounds_toArray, List.set_cons_zero, List.set_cons_succ]
  refine Reg.take_at (i := 13) (d := 7) (v := ?_) rfl rfl (by kernel_rfl) (by kernel_rfl) (by kernel_rfl) (fun _ _ _ h => h) (Or.inl ⟨by rfl, ?_⟩) ?_
  rotate_left 1
  ·intro w; go_simp <;> with_reducible rfl
  simp only [Act.put, List.setIfInBounds_toArray, List.set_cons_zero, List.set_cons_succ]
  refine wpAny_done (by kernel_rfl) ?_ _
  obtain ⟨h2, t2⟩ := HS.out u1 hon
  have r2 : RowP u1 (fun i => i = bk) (some ⟨bk, 0, none⟩) (bv (sbytes x)) := fun k v hv => by
   obtain ⟨ad, e1, e2, e3⟩ := (PageBytes.Arr.row har) k v hv
   injection e1 with e1
   subst e1
   exact ⟨_, rfl, rfl, e2, e3⟩
  have e0 := (pgc h2.st).1.1
  have hlo := h2.lo
  have T2 := Lib.hid (T1.out.step t2)
  have hcall := DiskWrite.write_dk h2.dk (x.ep % 2) (some ⟨bk, 0, none⟩) 256 (sbytes x) (by omega) r2.row
  rw [HWL.out.1, sbytes_len] at hcall
  clear hon hbk har t2 r2 c1 x0 x1 x2 x3
  go_wp2_with fail
  (with_reducible refine hcall.mono ?_)
  clear hcall
  rintro e u3 ⟨rfl, hw⟩
  obtain ⟨⟨FD2, h4⟩, t4⟩ := (h2.up (show m + 3000 ≤ m + 4000 by omega)).went hw (by rw [HWL.out.2]; have := HLO.out; push_cast; omega)
  have HN := Lib.hid h4
  have HT := Lib.hid (T2.out.step t4)
  clear hw h2 h4 t4 e0 hlo
  go_wp2_with fail
  go_ret
  exact ⟨rfl, ⟨FD2, HN.out⟩, HT.out⟩
 refine AllReady.cons rfl (fun KK hK => ?_) AllReady.nil
 go_simp
 refine hK _ _ ?_
 clear hK KK
 refine wpAny_ready (rs := [4]) (by decide +kernel) (by simp) ?_
 refine AllReady.cons rfl (fun KK hK => ?_) AllReady.nil
 go_simp
 refine hK _ _ ?_
 clear hK KK
 refine wpAny_ready (rs := [6]) (by decide +kernel) (by simp) ?_
 refine AllReady.cons rfl (fun KK hK => ?_) AllReady.nil
 go_simp
 (with_reducible refine (HCALL.out).mono ?_)
 rintro e u1 ⟨hon, hres⟩
 rcases hres with ⟨_, bk, t, rfl, hbk, har⟩ | ⟨hno, _⟩
 rotate_left
 ·exact absurd HXE.out.1 hno
 go_simp
 refine hK _ _ ?_
 clear hK KK
 refine Reg.take_at (i := 7) (d := 8) (v := ?_) rfl rfl (by kernel_rfl) (by kernel_rfl) (by kernel_rfl) (fun _ _ _ h => h) (Or.inl ⟨by rfl, ?_⟩) ?_
 rotate_left 1
 ·intro w; go_simp <;> with_reducible rfl
 simp only [Act.put, List.setIfInBounds_toArray, List.set_cons_zero, List.set_cons_succ]
 refine Reg.take_at (i := 8) (d := 16) (v := ?_) rfl rfl (by kernel_rfl) (by kernel_rfl) (by kernel_rfl) (fun _ _ _ h => h) (Or.inl ⟨by rfl, ?_⟩) ?_
 rotate_left 1
 ·intro w; go_simp <;> with_reducible rfl
 simp only [Act.put, List.setIfInBounds_toArray, List.set_cons_zero, List.set_cons_succ]
 refine Reg.take_at (i := 9) (d := 17) (v := ?_) rfl rfl (by kernel_rfl) (by kernel_rfl) (by kernel_rfl) (fun _ _ _ h => h) (Or.inl ⟨by rfl, ?_⟩) ?_
 rotate_left 1
 ·intro w; go_simp <;> with_reducible rfl
 simp only [Act.put, List.setIfInBounds_toArray, List.set_cons_zero, List.set_cons_succ]
 refine Reg.take_at (i := 10) (d := 18) (v := ?_) rfl rfl (by kernel_rfl) (by kernel_rfl) (by kernel_rfl) (fun _ _ _ h => h) (Or.inl ⟨by rfl, ?_⟩) ?_
 rotate_left 1
 ·intro w; go_simp <;> with_reducible rfl
 simp only [Act.put, List.setIfInBounds_toArray, List.set_cons_zero, List.set_cons_succ]
 refine Reg.take_at (i := 11) (d := 5) (v := ?_) rfl rfl (by kernel_rfl) (by kernel_rfl) (by kernel_rfl) (fun _ _ _ h => h) (Or.inl ⟨by rfl, ?_⟩) ?_
 rotate_left 1
 ·intro w; go_simp <;> with_reducible rfl
 simp only [Act.put, List.setIfInBounds_toArray, List.set_cons_zero, List.set_cons_succ]
 refine Reg.take_at (i := 12) (d := 6) (v := ?_) rfl rfl (by kernel_rfl) (by kernel_rfl) (by kernel_rfl) (fun _ _ _ h => h) (Or.inl ⟨by rfl, ?_⟩) ?_
 rotate_left 1
 ·intro w; go_simp <;> with_reducible rfl
 simp only [Act.put, List.setIfInBounds_toArray, List.set_cons_zero, List.set_cons_succ]
 refine Reg.take_at (i := 13) (d := 7) (v := ?_) rfl rfl (by kernel_rfl) (by kernel_rfl) (by kernel_rfl) (fun _ _ _ h => h) (Or.inl ⟨by rfl, ?_⟩) ?_
 rotate_left 1
 ·intro w; go_simp <;> with_reducible rfl
 simp only [Act.put, List.setIfInBounds_toArray, List.set_cons_zero, List.set_cons_succ]
 refine wpAny_done (by kernel_rfl) ?_ _
 obtain ⟨h2, t2⟩ := HS.out u1 hon
 have r2 : RowP u1 (fun i => i = bk) (some ⟨bk, 0, none⟩) (bv (sbytes x)) := fun k v hv => by
  obtain ⟨ad, e1, e2, e3⟩ := (PageBytes.Arr.row har) k v hv
  injection e1 with e1
  subst e1
  exact ⟨_, rfl, rfl, e2, e3⟩
 have e0 := (pgc h2.st).1.1
 have hlo := h2.lo
 have T2 := Lib.hid (T1.out.step t2)
 have hcall := DiskWrite.write_dk h2.dk (x.ep % 2) (some ⟨bk, 0, none⟩) 256 (sbytes x) (by omega) r2.row
 rw [HWL.out.1, sbytes_len] at hcall
 clear hon hbk har t2 r2 c1 x0 x1 x2 x3
 go_wp2_with fail
 (with_reducible refine hcall.mono ?_)
 clear hcall
 rintro e u3 ⟨rfl, hw⟩
 obtain ⟨⟨FD2, h4⟩, t4⟩ := (h2.up (show m + 3000 ≤ m + 4000 by omega)).went hw (by rw [HWL.out.2]; have := HLO.out; push_cast; omega)
 have HN := Lib.hid h4
 have HT := Lib.hid (T2.out.step t4)
 clear hw h2 h4 t4 e0 hlo
 go_wp2_with fail
 go_ret
 exact ⟨rfl, ⟨FD2, HN.out⟩, HT.out⟩
set_option maxRecDepth 100000 in
set_option maxHeartbeats 6400000 in
theorem tellSuper_any (h : Cr W p d g mp S P X m nn FD A B C a b c) (hm : m ≤ 780000000) (x : Sp) (hx : Ok x) (hf : S.fused = false) (hl : 2 ≤ S.last.length) : Calls Tryz.prog 55 #[.pointer (some ⟨p, 0, none⟩), sv x] W fun e w' =>
  e = .returned (.int .i64 0) ∧ (∃ FD', Cr w' p d g mp (S.write (x.ep % 2) (sbytes x)).sync P X (m + 4000) nn FD' A B C a b c) ∧ Turn (Not X) W w' := by
 obtain ⟨w1, hw1⟩ : ∃ v, v = W.alloc (.cells #[.int .i64 x.ep, .int .i64 x.root, .int .i64 x.free, .int .i64 x.pages] 29) := ⟨_, rfl⟩
 have b1 : Below W.heap.size W w1 := by rw [hw1]; exact al_ _ _
 have z1 : SuperSpec.Bs w1 W.heap.size x := by rw [hw1]; exact SuperSpec.bs_new W x
 have hcall := writeSuper_any (h.below b1) hm x hx hf hl
 obtain ⟨S2, hS2⟩ : ∃ v, v = S.write (x.ep % 2) (sbytes x) := ⟨_, rfl⟩
 rw [← hS2] at hcall ⊢
 obtain ⟨x0, x1, x2, x3⟩ := sup_cells z1
 have T1 := Lib.hid (show Turn (Not X) W w1 from Turn.ofBelow b1)
 have HW := Lib.hid hw1
 have hw2 := write_live hf (n := x.ep % 2) (b := sbytes x) (by have := hx.1; omega) (by omega) (sbytes_len x)
 have HF := Lib.hid (show S2.fused = false by rw [hS2, hw2.2]; exact hf)
 generalize hbx : W.heap.size = bx at x0 x1 x2 x3
 clear h hw1 b1 z1 hx hf hl hw2 hS2
 go_enter Tryz.func55, Tryz.ntmps55
 go_upto_region 1 with fail
 try rw [← HW.out]
 try rw [hbx]
 clear hbx HW
 go_wp2_with fail
 (with_reducible refine hcall.mono ?_)
 clear hcall x0 x1 x2 x3
 rintro e w2 ⟨rfl, ⟨FD2, h2⟩, t2⟩
 have T2 := Lib.hid (T1.out.step t2)
 have e0 := (pgc h2.st).1.1
 have hlo := h2.lo
 have hcall := dead_dk h2.dk
 rw [dead_no HF.out] at hcall
 have hcal2 := DiskSync.sync_dk h2.dk (by omega)
 clear t2
 go_wp2_with fail
 (with_reducible refine hcall.mono ?_)
 clear hcall
 rintro e w3 ⟨rfl, rfl⟩
 go_wp2_with fail
 (with_reducible refine hcal2.mono ?_)
 clear hcal2
 rintro e w4 ⟨rfl, hw⟩
 obtain ⟨⟨FD3, h4⟩, t4⟩ := h2.went hw (by rw [sync_live HF.out]; have := h2.lo; show ((0 : Nat) : Int) * 1000 ≤ _; omega)
 have HN := Lib.hid h4
 have HT := Lib.hid (T2.out.step t4)
 clear hw h2 h4 t4 e0 hlo
 go_wp2_with fail
 go_ret
 exact ⟨rfl, ⟨FD3, HN.out⟩, HT.out⟩
end
end Go.Proofs.YtpidnkfcccboaaaGreat.PagerCode
namespace Go.Proofs.YtpidnkfcccboaaaGreat.PagerCode
open Go.RowKit Base PagePlain PageSmall FreePlain FreeMem SuperPlain SuperRefCheck PagerPlain PagerTold PagerNum PagerSpec SumOf DiskPlain DiskMem DiskSmall PagerMem PagerDisk Go.Maps

/-- what keep makes of it -/
def _root_.Go.Proofs.YtpidnkfcccboaaaGreat.PagerPlain.PS.kept (P : PS) (x : Sp) (ch : List Int) (l : Fs) : PS := { P with x := x, ch := ch, tf := l, od := x.ep, nw := [], fl := l, pg := x.pages }
section
variable {W w w' : World} {p d g mp : Nat} {S : DS} {P P' : PS} {X Y G : Blks} {m m' : Int} {nn : Nat} {FD : Blks} {A B C : Option Addr} {a b c : Nat}
/-- the super, the chain and the told list written -/
theorem keep_set (h : Cr w p d g mp S P X m nn FD A B C a b c) (x : Sp) {ch : List Int} {l : Fs} {K L : Option Addr} {ck cl : Nat} (hb : ch.length ≤ ck) (hl : l.length ≤ cl) (rb : RowP w (Out p g mp FD X) K (intsV ch)) (rl : RowP w (Out p g mp FD X) L (fr l)) :
  Cr ((((((w.setCell ⟨p, 3, none⟩ (.int .i64 x.ep)).setCell ⟨p, 4, none⟩ (.int .i64 x.root)).setCell ⟨p, 5, none⟩ (.int .i64 x.free)).setCell ⟨p, 6, none⟩ (.int .i64 x.pages)).setCell ⟨p, 8, none⟩ (.slice K ch.length ck)).setCell ⟨p, 7, none⟩ (.slice L l.length cl)) p d g mp S { P with x := x, ch := ch, tf := l } X m nn FD L K C cl ck c ∧
  Turn (fun i => i = p) w ((((((w.setCell ⟨p, 3, none⟩ (.int .i64 x.ep)).setCell ⟨p, 4, none⟩ (.int .i64 x.root)).setCell ⟨p, 5, none⟩ (.int .i64 x.free)).setCell ⟨p, 6, none⟩ (.int .i64 x.pages)).setCell ⟨p, 8, none⟩ (.slice K ch.length ck)).setCell ⟨p, 7, none⟩ (.slice L l.length cl)) := by
 have t : Turn (fun i => i = p) w ((((((w.setCell ⟨p, 3, none⟩ (.int .i64 x.ep)).setCell ⟨p, 4, none⟩ (.int .i64 x.root)).setCell ⟨p, 5, none⟩ (.int .i64 x.free)).setCell ⟨p, 6, none⟩ (.int .i64 x.pages)).setCell ⟨p, 8, none⟩ (.slice K ch.length ck)).setCell ⟨p, 7, none⟩ (.slice L l.length cl)) :=
  ((((((Turn.refl (fun i => i = p) w).set ⟨p, 3, none⟩ (Or.inr rfl) _).set ⟨p, 4, none⟩ (Or.inr rfl) _).set ⟨p, 5, none⟩ (Or.inr rfl) _).set ⟨p, 6, none⟩ (Or.inr rfl) _).set ⟨p, 8, none⟩ (Or.inr rfl) _).set ⟨p, 7, none⟩ (Or.inr rfl) _
 exact ⟨h.re t (by have := (((((h.st.set 3 (.int .i64 x.ep)).set 4 (.int .i64 x.root)).set 5 (.int .i64 x.free)).set 6 (.int .i64 x.pages)).set 8 (.slice K ch.length ck)).set 7 (.slice L l.length cl); simpa using this) rfl hl hb h.lc rl rb h.rc, t⟩
set_option maxRecDepth 100000 in
set_option maxHeartbeats 6400000 in
theorem keep_any (h : Cr W p d g mp S P X m nn FD A B C a b c) (x : Sp) {ch : List Int} {l : Fs} {K L : Option Addr} {ck cl : Nat} (hb : ch.length ≤ ck) (hl : l.length ≤ cl) (rb : RowP W (Out p g mp FD X) K (intsV ch)) (rl : RowP W (Out p g mp FD X) L (fr l)) :
  Calls Tryz.prog 56 #[.pointer (some ⟨p, 0, none⟩), sv x, .slice K ch.length ck, .slice L l.length cl] W fun e w' => e = .returned (.tuple #[]) ∧ Cr w' p d g mp S (P.kept x ch l) X m 0 FD L K L cl ck cl ∧ Turn (Not X) W w' := by
 obtain ⟨w1, hw1⟩ : ∃ v, v = W.alloc (.cells #[.int .i64 x.ep, .int .i64 x.root, .int .i64 x.free, .int .i64 x.pages] 29) := ⟨_, rfl⟩
 have b1 : Below W.heap.size W w1 := by rw [hw1]; exact al_ _ _
 have z1 : SuperSpec.Bs w1 W.heap.size x := by rw [hw1]; exact SuperSpec.bs_new W x
 have h1 := h.below b1
 obtain ⟨x0, x1, x2, x3⟩ := sup_cells z1
 have hne : W.heap.size ≠ p := Nat.ne_of_gt h.st.lt
 obtain ⟨h2, t2⟩ := keep_set h1 x hb hl (rb.below b1) (rl.below b1)
 have T2 := Lib.hid (show Turn (Not X) W _ from (Turn.ofBelow b1).step (h1.notX t2))
 obtain ⟨w2, hw2⟩ : ∃ v, v = (((((w1.setCell ⟨p, 3, none⟩ (.int .i64 x.ep)).setCell ⟨p, 4, none⟩ (.int .i64 x.root)).setCell ⟨p, 5, none⟩ (.int .i64 x.free)).setCell ⟨p, 6, none⟩ (.int .i64 x.pages)).setCell ⟨p, 8, none⟩ (.slice K ch.length ck)).setCell ⟨p, 7, none⟩ (.slice L l.length cl) := ⟨_, rfl⟩
 rw [← hw2] at h2 t2 T2
 have z2 : SuperSpec.Bs w2 W.heap.size x := At.same z1 (t2.block _ (At.lt z1) hne)
 have hold := oldest_any h2 x.ep
 obtain ⟨y0, _, _, _⟩ := sup_cells z2
 have c3 := (pgc h1.st).2.1.1
 have c4 := (pgc h1.st).2.1.2.1
 have c5 := (pgc h1.st).2.1.2.2.1
 have c6 := (pgc h1.st).2.1.2.2.2
 have c7 := (pgc h1.st).2.2.1
 have c8 := (pgc h1.st).2.2.2.1
 have f3 := h1.st.frozen 3
 have f4 := h1.st.frozen 4
 have f5 := h1.st.frozen 5
 have f6 := h1.st.frozen 6
 have f7 := h1.st.frozen 7
 have f8 := h1.st.frozen 8
 have HW := Lib.hid hw1
 have HW2 := Lib.hid hw2
 rw [show min x.ep ({ P with x := x, ch := ch, tf := l } : PS).x.ep = x.ep from Int.min_self _] at hold
 generalize hbx : W.heap.size = bx at *
 clear h h1 h2 hw1 hw2 b1 z1 z2 t2 hb hl rb rl
 go_enter Tryz.func56, Tryz.ntmps56
 go_upto_region 1 with fail
 try rw [← HW.out]
 try rw [hbx]
 clear hbx HW
 go_upto_region 2 with fail
 try rw [← HW2.out]
 clear HW2 c3 c4 c5 c6 c7 c8 f3 f4 f5 f6 f7 f8 x0 x1 x2 x3
 go_wp2_with fail
 (with_reducible refine hold.mono ?_)
 clear hold y0
 rintro e w3 ⟨rfl, h3, t3⟩
 have hab := abort_any h3
 have T3 := Lib.hid (T2.out.step t3)
 clear h3 t3
 go_wp2_with fail
 (with_reducible refine hab.mono ?_)
 clear hab
 rintro e w4 ⟨rfl, h4, t4⟩
 have HN := Lib.hid h4
 have HT := Lib.hid (T3.out.step t4)
 clear h4 t4
 go_wp2_with fail
 go_end0
 exact ⟨rfl, HN.out, HT.out⟩
end
end Go.Proofs.YtpidnkfcccboaaaGreat.PagerCode
