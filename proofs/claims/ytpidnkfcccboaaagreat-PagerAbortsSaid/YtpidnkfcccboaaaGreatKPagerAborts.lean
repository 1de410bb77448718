/- The walk of PagerAborts, by what the calls are asked for. -/
import Derived.Test.YtpidnkfcccboaaaGreatKFreeCheck
import Derived.Test.YtpidnkfcccboaaaGreatKFreeCov
import Derived.Test.YtpidnkfcccboaaaGreatKInv4
import Derived.Test.YtpidnkfcccboaaaGreatKPagerRun
import Derived.Deep.CutBlock
namespace Go.Proofs.YtpidnkfcccboaaaGreat.PagerAborts
open Go.RowKit Base PagePlain PageSmall FreePlain FreeMem SuperPlain SuperRefCheck PagerPlain PagerTold PagerNum PagerSpec PagerPlumb PagerLaw PagerDo PagerAwake PagerRun DiskMem

/-- a row of free pages, of numbers -/
def FrV (l : Fs) (v : Value) (w : World) : Prop := ∃ A c, v = .slice A l.length c ∧ Row w w.heap.size A (fr l)
theorem FrV.below {l : Fs} {v : Value} {w w' : World} (h : FrV l v w) (hb : Below w.heap.size w w') : FrV l v w' := by
 obtain ⟨A, c, h1, h2⟩ := h
 exact ⟨A, c, h1, h2.belowSize hb⟩
def InV (l : List Int) (v : Value) (w : World) : Prop := ∃ A c, v = .slice A l.length c ∧ Row w w.heap.size A (intsV l)
theorem InV.below {l : List Int} {v : Value} {w w' : World} (h : InV l v w) (hb : Below w.heap.size w w') : InV l v w' := by
 obtain ⟨A, c, h1, h2⟩ := h
 exact ⟨A, c, h1, h2.belowSize hb⟩
/-- the pager, and what the law has kept of it -/
structure JA (M : Mem) (W : World) (p d : Nat) (P P0 : PS) (m : Int) (S : Blks) (bx : Nat) (A1 A2 : Option Addr) (w : World) : Prop where
 jp : PM M W w p d P m S
 jx : At w bx 29 #[.int .i64 P0.x.ep, .int .i64 P0.x.root, .int .i64 P0.x.free, .int .i64 P0.x.pages]
 jl : RowP w S A1 (fr P0.fl)
 jc : RowP w S A2 (intsV P0.ch)
section
variable {M : Mem} {W : World} {p d : Nat} {P P0 Q : PS} {m mq : Int} {S : Blks} {bx : Nat} {A1 A2 : Option Addr} {w w' : World}
theorem JA.below (X : Specs M) (h : JA M W p d P P0 m S bx A1 A2 w) (hb : Below w.heap.size w w') : JA M W p d P P0 m S bx A1 A2 w' :=
 ⟨h.jp.below X hb, atb h.jx hb, h.jl.below hb, h.jc.below hb⟩
theorem ja_turn (h : JA M W p d P P0 m S bx A1 A2 w) (t : Turn (Not S) w w') (hp : PM M W w' p d Q mq S) (hs : S bx) : JA M W p d Q P0 mq S bx A1 A2 w' :=
 ⟨hp, att h.jx t hs, h.jl.turn t fun _ q z => z q, h.jc.turn t fun _ q z => z q⟩
theorem row_ne {u : World} {z bx : Nat} {A : Option Addr} {vs : List Value} (h : RowP u (fun b => z ≤ b) A vs) (hbx : bx = u.heap.size) : RowP u (fun b => z ≤ b ∧ b ≠ bx) A vs := fun k v hv => by
 obtain ⟨ad, a, b, c, e⟩ := h k v hv
 exact ⟨ad, a, ⟨b, by omega⟩, c, e⟩
theorem ga_done (X : Specs M) {w0 u : World} (h0 : PM M W w0 p d P m (fun b => b < W.heap.size)) (hb : Below w0.heap.size w0 u) (x : At u bx 29 #[.int .i64 0, .int .i64 0, .int .i64 0, .int .i64 0]) (hbz : w0.heap.size ≤ bx)
  (ra : RowP u (fun b => w0.heap.size ≤ b ∧ b ≠ bx) A1 (fr P.fl)) (rb : RowP u (fun b => w0.heap.size ≤ b ∧ b ≠ bx) A2 (intsV P.ch)) :
  ∃ Sc, JA M W p d P P m Sc bx A1 A2 ((((u.setCell ⟨bx, 0, none⟩ (.int .i64 P.x.ep)).setCell ⟨bx, 1, none⟩ (.int .i64 P.x.root)).setCell ⟨bx, 2, none⟩ (.int .i64 P.x.free)).setCell ⟨bx, 3, none⟩ (.int .i64 P.x.pages)) ∧ Sc bx := by
 have t : Turn (fun i => i = bx) u ((((u.setCell ⟨bx, 0, none⟩ (.int .i64 P.x.ep)).setCell ⟨bx, 1, none⟩ (.int .i64 P.x.root)).setCell ⟨bx, 2, none⟩ (.int .i64 P.x.free)).setCell ⟨bx, 3, none⟩ (.int .i64 P.x.pages)) :=
  ((((Turn.refl (fun i => i = bx) u).set ⟨bx, 0, none⟩ (Or.inr rfl) _).set ⟨bx, 1, none⟩ (Or.inr rfl) _).set ⟨bx, 2, none⟩ (Or.inr rfl) _).set ⟨bx, 3, none⟩ (Or.inr rfl) _
 have hx := x.lt
 have h1 := h0.more X hb
 have hlo : W.heap.size ≤ w0.heap.size := h0.base.size
 have h2 := pm_own X h1 t (fun b hbu hbe => ⟨Or.inr ⟨by have : b = bx := hbe; omega, hbu⟩, by have : b = bx := hbe; omega⟩)
 have hrow : ∀ {A : Option Addr} {vs : List Value}, RowP u (fun b => w0.heap.size ≤ b ∧ b ≠ bx) A vs → RowP ((((u.setCell ⟨bx, 0, none⟩ (.int .i64 P.x.ep)).setCell ⟨bx, 1, none⟩ (.int .i64 P.x.root)).setCell ⟨bx, 2, none⟩ (.int .i64 P.x.free)).setCell ⟨bx, 3, none⟩ (.int .i64 P.x.pages)) (Plus (Plus (fun b => b < W.heap.size) w0 u) u ((((u.setCell ⟨bx, 0, none⟩ (.int .i64 P.x.ep)).setCell ⟨bx, 1, none⟩ (.int .i64 P.x.root)).setCell ⟨bx, 2, none⟩ (.int .i64 P.x.free)).setCell ⟨bx, 3, none⟩ (.int .i64 P.x.pages))) A vs := fun hr k v hv => by
  obtain ⟨ad, a, _, c, e⟩ := hr.turn t (fun b hq z => hq.2 z) k v hv
  obtain ⟨ad', a', b', c', _⟩ := hr k v hv
  rw [a] at a'; injection a' with a'; subst a'
  exact ⟨ad, a, Or.inl (Or.inr ⟨b'.1, c'⟩), c, e⟩
 refine ⟨_, ⟨h2, ?_, hrow ra, hrow rb⟩, Or.inl (Or.inr ⟨hbz, hx⟩)⟩
 have hh : u.heap[bx]? = some _ := x
 show _ = _
 simp [World.setCell, Array.getElem?_modify, hh]
theorem abort_same (h : Still P0 Q) (h0 : P0.pg = P0.x.pages ∧ P0.fl = P0.tf) : Q.abort.x = P0.x ∧ Q.abort.pg = P0.pg ∧ Q.abort.fl = P0.fl ∧ Q.abort.ch = P0.ch :=
 ⟨h.x, by show Q.x.pages = P0.pg; rw [h.x, h0.1], by show Q.tf = P0.fl; rw [h.tf, h0.2], h.ch⟩
end
theorem few_ch {P : PS} (h : Inv P) : (P.ch.length : Int) ≤ P.pg := by
 have h1 := h.cn.length_le_of_subset (l₂ := FreeCov.rng (P.pg - 2).toNat) fun c hc => by
  have := h.tc c hc
  have := h.xg
  exact FreeCov.mem_rng.2 ⟨by omega, by omega⟩
 rw [FreeCov.len_rng] at h1
 have := h.xp
 have := h.xg
 omega
set_option maxRecDepth 100000 in
set_option maxHeartbeats 51200000 in
theorem aborts_any {M : Mem} (X : Specs M) (W : World) (A B : Option Addr) (cx cy : Nat) (xs ys : List PA) (hA : Acts W A xs) (hB : Acts W B ys) (hx : xs.length ≤ maxLen) (hy : ys.length ≤ maxLen) :
  Calls Tryz.prog 6 #[.slice A xs.length cx, .slice B ys.length cy] W (Law W) := by
 have HXS := Lib.hid hA
 have HYS := Lib.hid hB
 clear hA hB
 unfold maxLen at hx hy
 unfold Law
 have hcall := X.fresh W 100 (by omega) (by omega)
 go_enter Tryz.func6, Tryz.ntmps6
 go_wp2_with fail
 (with_reducible refine hcall.mono ?_)
 clear hcall
 rintro e w1 ⟨p, d, F, rfl, hm, hF, hb⟩
 have h1 : PM M W w1 p d (freshP 100) 1000000 (fun b => b < W.heap.size) := pm_fresh hm hF hb
 clear hm hF hb
 have hcall := awake_any X w1
 unfold Law at hcall
 go_wp2_with fail
 (with_reducible refine hcall.mono ?_)
 clear hcall
 rintro e w2 ⟨rfl, b2⟩
 have h2 := h1.below X b2
 clear h1 b2
 have HR0 := Lib.hid (show Run M W w2 w2 p d (fun b => b < W.heap.size) 10 0 (fun _ => True) from ⟨_, _, h2, fine_fresh (by omega) (by omega), by omega, by show (1 : Int) ≤ _; omega, trivial, Turn.refl _ _⟩)
 clear h2
 go_upto_block 0 with fail
 go_cut [7] from 27 to 48 (fun s7 wx => s7 = s7 ∧ ∃ k : Nat, k ≤ 25 ∧ Run M W w2 wx p d (fun b => b < W.heap.size) 10 k (fun _ => True))
 case first =>
  go_wp2_with fail
  go_loopw [7] (fun i wr => ∃ k : Nat, k ≤ xs.length ∧ k ≤ 25 ∧ i = .int .i64 k ∧ Run M W w2 wr p d (fun b => b < W.heap.size) 10 k (fun _ => True)) (fun i _ => 25 - (intOf i).toNat)
  case atStart => exact ⟨0, by omega, by omega, rfl, HR0.out⟩
  case round =>
   obtain ⟨k, hk, hkb, rfl, hrun⟩ := hrel
   by_cases hlt : k < xs.length ∧ k < 25
   ·obtain ⟨hl1, hl2⟩ := hlt
    obtain ⟨x, hx⟩ : ∃ x, xs[k]? = some x := ⟨_, List.getElem?_eq_getElem hl1⟩
    obtain ⟨ab, ao, K, ck, hat⟩ := Acts.at HXS.out hrun.base hx
    have hidx := idx_acts (n := xs.length) (c := cx) hat.hA hl1
    obtain ⟨c0, c1, c2, c3, c4, c5, c6⟩ : _ ∧ _ ∧ _ ∧ _ ∧ _ ∧ _ ∧ _ := ⟨hat.c0, hat.c1, hat.c2, hat.c3, hat.c4, hat.c5, hat.c6⟩
    have hcall := few_any wr x K ck hat.row hat.ok.few
    have HAT := Lib.hid hat
    have HRUN := Lib.hid hrun
    clear hat hrun hx
    by_cases hfew : x.cells.length ≤ 130 ∧ ∀ q ∈ x.cells, q.size ≤ 300
    rotate_left
    ·rw [decide_eq_false hfew] at hcall
     clear hfew
     go_wp2_with fail
     (with_reducible refine hcall.mono ?_)
     clear hcall c0 c1 c2 c3 c4 c5 c6
     rintro e wf ⟨rfl, bf⟩
     go_wp2_with fail
     go_roundw
     case rel => exact ⟨k + 1, by omega, by omega, by go_num, HRUN.out.skip X bf (fun _ _ => trivial)⟩
     case measure => simp [intOf]; omega
    rw [decide_eq_true hfew] at hcall
    have HFEW := Lib.hid hfew
    clear hfew
    go_wp2_with fail
    (with_reducible refine hcall.mono ?_)
    clear hcall c0 c1 c2 c3 c4 c5 c6
    rintro e wf ⟨rfl, bf⟩
    have hat := HAT.out.below bf
    obtain ⟨c0, c1, c2, c3, c4, c5, c6⟩ : _ ∧ _ ∧ _ ∧ _ ∧ _ ∧ _ ∧ _ := ⟨hat.c0, hat.c1, hat.c2, hat.c3, hat.c4, hat.c5, hat.c6⟩
    obtain ⟨P, m, hpm, hfn, hm, hep, hR, htn⟩ := HRUN.out
    have hcall := do_any X (hpm.below X bf) hfn x hat.ok K ck HFEW.out hat.row
    have HS := Lib.hid (And.intro hfn (And.intro hm (And.intro hep (And.intro hR (htn.step (Turn.ofBelow bf))))))
    clear hat hpm hfn hm hep hR htn HRUN HAT bf
    go_wp2_with fail
    (with_reducible refine hcall.mono ?_)
    clear hcall c0 c1 c2 c3 c4 c5 c6
    rintro e wg ⟨rfl, hpm, htn⟩
    have HN := Lib.hid (show Run M W w2 wg p d (fun b => b < W.heap.size) 10 (k + 1) (fun _ => True) from run_do hpm htn HS.out.2.2.2.2 HS.out.1 HS.out.2.1 HS.out.2.2.1 (by omega) (by omega) (trivial))
    go_wp2_with fail
    go_roundw
    case rel => exact ⟨k + 1, by omega, by omega, by go_num, HN.out⟩
    case measure => simp [intOf]; omega
   have hex : (xs.length ≤ k) ∨ (k < xs.length ∧ 25 ≤ k) := by omega
   rcases hex with hex | ⟨hex, hex2⟩
   ·have HRUN := Lib.hid hrun
    clear hrun HR0
    go_wp2_with fail
    go_meet
    exact ⟨trivial, _, by omega, HRUN.out⟩
   ·have HRUN := Lib.hid hrun
    clear hrun HR0
    go_wp2_with fail
    go_meet
    exact ⟨trivial, _, by omega, HRUN.out⟩
 case rest =>
  obtain ⟨_, k, hkb, hrun⟩ := hcut
  clear HR0
  have HRUN := Lib.hid hrun
  clear hrun
  go_upto_region 9 with fail
  obtain ⟨Pa, ma, hpm, hfn, hm, hep, _, _⟩ := HRUN.out
  have hcall := pm_abort X hpm hfn
  have hf0 := fine_abort hfn (by omega)
  have hm2 : ma + 1000000 ≤ 1000000 * (((0 : Nat) : Int) + 100) := by omega
  have he2 : Pa.abort.x.ep ≤ ((0 : Nat) : Int) + 100 := by show Pa.x.ep ≤ _; omega
  have hP0 : Pa.abort.pg = Pa.abort.x.pages ∧ Pa.abort.fl = Pa.abort.tf := ⟨rfl, rfl⟩
  clear HRUN hpm hfn hm hep
  go_wp2_with fail
  (with_reducible refine hcall.mono ?_)
  clear hcall
  rintro e wa ⟨rfl, ha, _⟩
  generalize Pa.abort = P0 at ha hf0 he2 hP0
  generalize ma + 1000000 = ma at ha hf0 hm2
  have HP0 := Lib.hid hP0
  have HF0 := Lib.hid (And.intro hf0 (And.intro hm2 he2))
  clear hP0 hm2 he2
  clear hf0
  go_upto_region 10 with fail
  have h0 := ha.below X (w' := wa.drew) (Below.refl _ _).drew
  clear ha
  go_cut [8, 9, 10, 11] (fun s8 s9 s10 s11 wx => ∃ (bx : Nat) (A1 : Option Addr) (k1 : Nat) (A2 : Option Addr) (k2 : Nat) (Sc : Blks), s8 = .pointer (some ⟨bx, 0, none⟩) ∧ s9 = .int .i64 P0.pg ∧ s10 = .slice A1 P0.fl.length k1 ∧ s11 = .slice A2 P0.ch.length k2 ∧ JA M W p d P0 P0 ma Sc bx A1 A2 wx ∧ Sc bx)
  case first =>
   refine wp_region_any (by kernel_rfl) ?_
   change wpAny _ _ _ _ _ _ _ (World.drew _)
   obtain ⟨u0, hu0⟩ : ∃ v, v = World.drew wa := ⟨_, rfl⟩
   rw [← hu0] at h0
   rw [← hu0]
   clear hu0
   have hp := h0
   have hb : Below u0.heap.size u0 u0 := Below.refl _ _
   refine Reg.take_at (i := 0) (d := 50) (v := ?_) rfl rfl (by kernel_rfl) (by kernel_rfl) (by kernel_rfl) (fun _ _ _ h => h) (Or.inl ⟨by rfl, ?_⟩) ?_
   rotate_left 1
   ·intro w; go_simp <;> with_reducible rfl
   simp only [Act.put, List.setIfInBounds_toArray, List.set_cons_zero, List.set_cons_succ]
   refine Reg.take_at (i := 2) (d := 52) (v := ?_) rfl rfl (by kernel_rfl) (by kernel_rfl) (by kernel_rfl) (fun _ _ _ h => h) (Or.inl ⟨by rfl, ?_⟩) ?_
   rotate_left 1
   ·intro w; go_simp <;> with_reducible rfl
   simp only [Act.put, List.setIfInBounds_toArray, List.set_cons_zero, List.set_cons_succ]
   refine Reg.take_at (i := 3) (d := 53) (v := ?_) rfl rfl (by kernel_rfl) (by kernel_rfl) (by kernel_rfl) (fun _ _ _ h => h) (Or.inl ⟨by rfl, ?_⟩) ?_
   rotate_left 1
   ·intro w; go_simp <;> with_reducible rfl
   simp only [Act.put, List.setIfInBounds_toArray, List.set_cons_zero, List.set_cons_succ]
   refine Reg.take_at (i := 4) (d := 54) (v := ?_) rfl rfl (by kernel_rfl) (by kernel_rfl) (by kernel_rfl) (fun _ _ _ h => h) (Or.inl ⟨by rfl, ?_⟩) ?_
   rotate_left 1
   ·intro w; go_simp <;> with_reducible rfl
   simp only [Act.put, List.setIfInBounds_toArray, List.set_cons_zero, List.set_cons_succ]
   refine Reg.take_at (i := 6) (d := 56) (v := ?_) rfl rfl (by kernel_rfl) (by kernel_rfl) (by kernel_rfl) (fun _ _ _ h => h) (Or.inl ⟨by rfl, ?_⟩) ?_
   rotate_left 1
   ·intro w; go_simp <;> with_reducible rfl
   simp only [Act.put, List.setIfInBounds_toArray, List.set_cons_zero, List.set_cons_succ]
   refine Reg.take_at (i := 8) (d := 58) (v := ?_) rfl rfl (by kernel_rfl) (by kernel_rfl) (by kernel_rfl) (fun _ _ _ h => h) (Or.inl ⟨by rfl, ?_⟩) ?_
   rotate_left 1
   ·intro w; go_simp <;> with_reducible rfl
   simp only [Act.put, List.setIfInBounds_toArray, List.set_cons_zero, List.set_cons_succ]
   refine wpAny_ready (rs := [1, 10]) (by decide +kernel) (by simp) ?_
   refine AllReady.cons rfl (fun KK hK => ?_) ?_
   ·go_simp
    have hh : Calls Tryz.prog 16 #[.pointer (some ⟨p, 0, none⟩)] u0 (fun e w' => e = .returned (.agg #[.int .i64 P0.x.ep, .int .i64 P0.x.root, .int .i64 P0.x.free, .int .i64 P0.x.pages]) ∧ Below u0.heap.size u0 w') := pm_super X hp
    (with_reducible refine hh.mono ?_)
    clear hh
    rintro e u1 ⟨rfl, bb⟩
    replace hp := hp.below X bb
    replace hb := Below.step hb bb
    clear bb
    go_simp
    refine hK _ _ ?_
    clear hK KK
    refine wpAny_ready (rs := [5, 10]) (by decide +kernel) (by simp) ?_
    refine AllReady.cons rfl (fun KK hK => ?_) ?_
    ·go_simp
     have hh := pm_pages X hp
     (with_reducible refine hh.mono ?_)
     clear hh
     rintro e u2 ⟨rfl, bb⟩
     replace hp := hp.below X bb
     replace hb := Below.step hb bb
     clear bb
     go_simp
     refine hK _ _ ?_
     clear hK KK
     refine wpAny_ready (rs := [7, 10]) (by decide +kernel) (by simp) ?_
     refine AllReady.cons rfl (fun KK hK => ?_) ?_
     ·go_simp
      have hh := X.free hp.mem.choose_spec.1 HF0.out.1
      (with_reducible refine hh.mono ?_)
      clear hh
      rintro e u3 ⟨A1, k1, rfl, bb, rr⟩
      have ra : RowP u3 (fun b => u0.heap.size ≤ b) A1 (fr P0.fl) := rr.wide fun b hq => Nat.le_trans hb.size hq
      clear rr
      replace hp := hp.below X bb
      replace hb := Below.step hb bb
      clear bb
      go_simp
      refine hK _ _ ?_
      clear hK KK
      refine wpAny_ready (rs := [9, 10]) (by decide +kernel) (by simp) ?_
      refine AllReady.cons rfl (fun KK hK => ?_) ?_
      ·go_simp
       have hh := X.chain hp.mem.choose_spec.1 HF0.out.1
       (with_reducible refine hh.mono ?_)
       clear hh
       rintro e u4 ⟨A2, k2, rfl, bb, rr⟩
       have rb : RowP u4 (fun b => u0.heap.size ≤ b) A2 (intsV P0.ch) := rr.wide fun b hq => Nat.le_trans hb.size hq
       clear rr
       replace hp := hp.below X bb
       replace hb := Below.step hb bb
       replace ra := ra.below bb
       clear bb
       go_simp
       refine hK _ _ ?_
       clear hK KK
       refine wpAny_ready (rs := [10]) (by decide +kernel) (by simp) ?_
       refine AllReady.cons rfl (fun KK hK => ?_) AllReady.nil
       go_simp
       refine hK _ _ ?_
       clear hK KK
       obtain ⟨u5, hu⟩ : ∃ v, v = u4.alloc (.cells #[.int .i64 0, .int .i64 0, .int .i64 0, .int .i64 0] 29) := ⟨_, rfl⟩
       rw [← hu]
       obtain ⟨bx, hbx⟩ : ∃ v, v = u4.heap.size := ⟨_, rfl⟩
       rw [← hbx]
       have bb : Below u4.heap.size u4 u5 := by rw [hu]; exact al' _ _
       have hbz : u0.heap.size ≤ bx := by rw [hbx]; exact hb.size
       replace ra := row_ne ra hbx
       replace rb := row_ne rb hbx
       replace hp := hp.below X bb
       replace hb := Below.step hb bb
       replace ra := ra.below bb
       replace rb := rb.below bb
       clear bb
       have x : At u5 bx 29 #[.int .i64 0, .int .i64 0, .int .i64 0, .int .i64 0] := by rw [hu, hbx]; exact heap_alloc_new _ _
       clear hu hbx
       refine wpAny_ready (rs := [11]) (by decide +kernel) (by simp) ?_
       refine AllReady.cons rfl (fun KK hK => ?_) AllReady.nil
       obtain ⟨d0, d1, d2, d3⟩ := four_at x
       have q0 := x.frozen 0
       have q1 := x.frozen 1
       have q2 := x.frozen 2
       have q3 := x.frozen 3
       go_simp
       refine hK _ _ ?_
       clear hK KK d0 d1 d2 d3 q0 q1 q2 q3
       refine Reg.take_at (i := 12) (d := 9) (v := ?_) rfl rfl (by kernel_rfl) (by kernel_rfl) (by kernel_rfl) (fun _ _ _ h => h) (Or.inl ⟨by rfl, ?_⟩) ?_
       rotate_left 1
       ·intro w; go_simp <;> with_reducible rfl
       simp only [Act.put, List.setIfInBounds_toArray, List.set_cons_zero, List.set_cons_succ]
       refine Reg.take_at (i := 13) (d := 10) (v := ?_) rfl rfl (by kernel_rfl) (by kernel_rfl) (by kernel_rfl) (fun _ _ _ h => h) (Or.inl ⟨by rfl, ?_⟩) ?_
       rotate_left 1
       ·intro w; go_simp <;> with_reducible rfl
       simp only [Act.put, List.setIfInBounds_toArray, List.set_cons_zero, List.set_cons_succ]
       refine Reg.take_at (i := 14) (d := 11) (v := ?_) rfl rfl (by kernel_rfl) (by kernel_rfl) (by kernel_rfl) (fun _ _ _ h => h) (Or.inl ⟨by rfl, ?_⟩) ?_
       rotate_left 1
       ·intro w; go_simp <;> with_reducible rfl
       simp only [Act.put, List.setIfInBounds_toArray, List.set_cons_zero, List.set_cons_succ]
       refine wpAny_done (by kernel_rfl) ?_ _
       obtain ⟨Sc, hd, hs⟩ := ga_done X h0 hb x hbz ra rb
       clear hp hb x hbz ra rb h0
       go_wp2_with fail
       go_meet
       exact ⟨_, _, _, _, _, _, rfl, rfl, rfl, rfl, hd, hs⟩
      refine AllReady.cons rfl (fun KK hK => ?_) AllReady.nil
      go_simp
      refine hK _ _ ?_
      clear hK KK
      obtain ⟨u4, hu⟩ : ∃ v, v = u3.alloc (.cells #[.int .i64 0, .int .i64 0, .int .i64 0, .int .i64 0] 29) := ⟨_, rfl⟩
      rw [← hu]
      obtain ⟨bx, hbx⟩ : ∃ v, v = u3.heap.size := ⟨_, rfl⟩
      rw [← hbx]
      have bb : Below u3.heap.size u3 u4 := by rw [hu]; exact al' _ _
      have hbz : u0.heap.size ≤ bx := by rw [hbx]; exact hb.size
      replace ra := row_ne ra hbx
      replace hp := hp.below X bb
      replace hb := Below.step hb bb
      replace ra := ra.below bb
      clear bb
      have x : At u4 bx 29 #[.int .i64 0, .int .i64 0, .int .i64 0, .int .i64 0] := by rw [hu, hbx]; exact heap_alloc_new _ _
      clear hu hbx
      refine wpAny_ready (rs := [9]) (by decide +kernel) (by simp) ?_
      refine AllReady.cons rfl (fun KK hK => ?_) AllReady.nil
      go_simp
      have hh := X.chain hp.mem.choose_spec.1 HF0.out.1
      (with_reducible refine hh.mono ?_)
      clear hh
      rintro e u5 ⟨A2, k2, rfl, bb, rr⟩
      have hxl := x.lt
      have rb : RowP u5 (fun b => u0.heap.size ≤ b ∧ b ≠ bx) A2 (intsV P0.ch) := rr.wide fun b hq => ⟨Nat.le_trans hb.size hq, by omega⟩
      clear hxl rr
      replace hp := hp.below X bb
      replace hb := Below.step hb bb
      replace x := atb x bb
      replace ra := ra.below bb
      clear bb
      go_simp
      refine hK _ _ ?_
      clear hK KK
      refine wpAny_ready (rs := [11]) (by decide +kernel) (by simp) ?_
      refine AllReady.cons rfl (fun KK hK => ?_) AllReady.nil
      obtain ⟨d0, d1, d2, d3⟩ := four_at x
      have q0 := x.frozen 0
      have q1 := x.frozen 1
      have q2 := x.frozen 2
      have q3 := x.frozen 3
      go_simp
      refine hK _ _ ?_
      clear hK KK d0 d1 d2 d3 q0 q1 q2 q3
      refine Reg.take_at (i := 12) (d := 9) (v := ?_) rfl rfl (by kernel_rfl) (by kernel_rfl) (by kernel_rfl) (fun _ _ _ h => h) (Or.inl ⟨by rfl, ?_⟩) ?_
      rotate_left 1
      ·intro w; go_simp <;> with_reducible rfl
      simp only [Act.put, List.setIfInBounds_toArray, List.set_cons_zero, List.set_cons_succ]
      refine Reg.take_at (i := 13) (d := 10) (v := ?_) rfl rfl (by kernel_rfl) (by kernel_rfl) (by kernel_rfl) (fun _ _ _ h => h) (Or.inl ⟨by rfl, ?_⟩) ?_
      rotate_left 1
      ·intro w; go_simp <;> with_reducible rfl
      simp only [Act.put, List.setIfInBounds_toArray, List.set_cons_zero, List.set_cons_succ]
      refine Reg.take_at (i := 14) (d := 11) (v := ?_) rfl rfl (by kernel_rfl) (by kernel_rfl) (by kernel_rfl) (fun _ _ _ h => h) (Or.inl ⟨by rfl, ?_⟩) ?_
      rotate_left 1
      ·intro w; go_simp <;> with_reducible rfl
      simp only [Act.put, List.setIfInBounds_toArray, List.set_cons_zero, List.set_cons_succ]
      refine wpAny_done (by kernel_rfl) ?_ _
      obtain ⟨Sc, hd, hs⟩ := ga_done X h0 hb x hbz ra rb
      clear hp hb x hbz ra rb h0
      go_wp2_with fail
      go_meet
      exact ⟨_, _, _, _, _, _, rfl, rfl, rfl, rfl, hd, hs⟩
     refine AllReady.cons rfl (fun KK hK => ?_) AllReady.nil
     go_simp
     refine hK _ _ ?_
     clear hK KK
     obtain ⟨u3, hu⟩ : ∃ v, v = u2.alloc (.cells #[.int .i64 0, .int .i64 0, .int .i64 0, .int .i64 0] 29) := ⟨_, rfl⟩
     rw [← hu]
     obtain ⟨bx, hbx⟩ : ∃ v, v = u2.heap.size := ⟨_, rfl⟩
     rw [← hbx]
     have bb : Below u2.heap.size u2 u3 := by rw [hu]; exact al' _ _
     have hbz : u0.heap.size ≤ bx := by rw [hbx]; exact hb.size
     replace hp := hp.below X bb
     replace hb := Below.step hb bb
     clear bb
     have x : At u3 bx 29 #[.int .i64 0, .int .i64 0, .int .i64 0, .int .i64 0] := by rw [hu, hbx]; exact heap_alloc_new _ _
     clear hu hbx
     refine wpAny_ready (rs := [7]) (by decide +kernel) (by simp) ?_
     refine AllReady.cons rfl (fun KK hK => ?_) AllReady.nil
     go_simp
     have hh := X.free hp.mem.choose_spec.1 HF0.out.1
     (with_reducible refine hh.mono ?_)
     clear hh
     rintro e u4 ⟨A1, k1, rfl, bb, rr⟩
     have hxl := x.lt
     have ra : RowP u4 (fun b => u0.heap.size ≤ b ∧ b ≠ bx) A1 (fr P0.fl) := rr.wide fun b hq => ⟨Nat.le_trans hb.size hq, by omega⟩
     clear hxl rr
     replace hp := hp.below X bb
     replace hb := Below.step hb bb
     replace x := atb x bb
     clear bb
     go_simp
     refine hK _ _ ?_
     clear hK KK
     refine wpAny_ready (rs := [9]) (by decide +kernel) (by simp) ?_
     refine AllReady.cons rfl (fun KK hK => ?_) AllReady.nil
     go_simp
     have hh := X.chain hp.mem.choose_spec.1 HF0.out.1
     (with_reducible refine hh.mono ?_)
     clear hh
     rintro e u5 ⟨A2, k2, rfl, bb, rr⟩
     have hxl := x.lt
     have rb : RowP u5 (fun b => u0.heap.size ≤ b ∧ b ≠ bx) A2 (intsV P0.ch) := rr.wide fun b hq => ⟨Nat.le_trans hb.size hq, by omega⟩
     clear hxl rr
     replace hp := hp.below X bb
     replace hb := Below.step hb bb
     replace x := atb x bb
     replace ra := ra.below bb
     clear bb
     go_simp
     refine hK _ _ ?_
     clear hK KK
     refine wpAny_ready (rs := [11]) (by decide +kernel) (by simp) ?_
     refine AllReady.cons rfl (fun KK hK => ?_) AllReady.nil
     obtain ⟨d0, d1, d2, d3⟩ := four_at x
     have q0 := x.frozen 0
     have q1 := x.frozen 1
     have q2 := x.frozen 2
     have q3 := x.frozen 3
     go_simp
     refine hK _ _ ?_
     clear hK KK d0 d1 d2 d3 q0 q1 q2 q3
     refine Reg.take_at (i := 12) (d := 9) (v := ?_) rfl rfl (by kernel_rfl) (by kernel_rfl) (by kernel_rfl) (fun _ _ _ h => h) (Or.inl ⟨by rfl, ?_⟩) ?_
     rotate_left 1
     ·intro w; go_simp <;> with_reducible rfl
     simp only [Act.put, List.setIfInBounds_toArray, List.set_cons_zero, List.set_cons_succ]
     refine Reg.take_at (i := 13) (d := 10) (v := ?_) rfl rfl (by kernel_rfl) (by kernel_rfl) (by kernel_rfl) (fun _ _ _ h => h) (Or.inl ⟨by rfl, ?_⟩) ?_
     rotate_left 1
     ·intro w; go_simp <;> with_reducible rfl
     simp only [Act.put, List.setIfInBounds_toArray, List.set_cons_zero, List.set_cons_succ]
     refine Reg.take_at (i := 14) (d := 11) (v := ?_) rfl rfl (by kernel_rfl) (by kernel_rfl) (by kernel_rfl) (fun _ _ _ h => h) (Or.inl ⟨by rfl, ?_⟩) ?_
     rotate_left 1
     ·intro w; go_simp <;> with_reducible rfl
     simp only [Act.put, List.setIfInBounds_toArray, List.set_cons_zero, List.set_cons_succ]
     refine wpAny_done (by kernel_rfl) ?_ _
     obtain ⟨Sc, hd, hs⟩ := ga_done X h0 hb x hbz ra rb
     clear hp hb x hbz ra rb h0
     go_wp2_with fail
     go_meet
     exact ⟨_, _, _, _, _, _, rfl, rfl, rfl, rfl, hd, hs⟩
    refine AllReady.cons rfl (fun KK hK => ?_) AllReady.nil
    go_simp
    refine hK _ _ ?_
    clear hK KK
    obtain ⟨u2, hu⟩ : ∃ v, v = u1.alloc (.cells #[.int .i64 0, .int .i64 0, .int .i64 0, .int .i64 0] 29) := ⟨_, rfl⟩
    rw [← hu]
    obtain ⟨bx, hbx⟩ : ∃ v, v = u1.heap.size := ⟨_, rfl⟩
    rw [← hbx]
    have bb : Below u1.heap.size u1 u2 := by rw [hu]; exact al' _ _
    have hbz : u0.heap.size ≤ bx := by rw [hbx]; exact hb.size
    replace hp := hp.below X bb
    replace hb := Below.step hb bb
    clear bb
    have x : At u2 bx 29 #[.int .i64 0, .int .i64 0, .int .i64 0, .int .i64 0] := by rw [hu, hbx]; exact heap_alloc_new _ _
    clear hu hbx
    refine wpAny_ready (rs := [5]) (by decide +kernel) (by simp) ?_
    refine AllReady.cons rfl (fun KK hK => ?_) AllReady.nil
    go_simp
    have hh := pm_pages X hp
    (with_reducible refine hh.mono ?_)
    clear hh
    rintro e u3 ⟨rfl, bb⟩
    replace hp := hp.below X bb
    replace hb := Below.step hb bb
    replace x := atb x bb
    clear bb
    go_simp
    refine hK _ _ ?_
    clear hK KK
    refine wpAny_ready (rs := [7]) (by decide +kernel) (by simp) ?_
    refine AllReady.cons rfl (fun KK hK => ?_) AllReady.nil
    go_simp
    have hh := X.free hp.mem.choose_spec.1 HF0.out.1
    (with_reducible refine hh.mono ?_)
    clear hh
    rintro e u4 ⟨A1, k1, rfl, bb, rr⟩
    have hxl := x.lt
    have ra : RowP u4 (fun b => u0.heap.size ≤ b ∧ b ≠ bx) A1 (fr P0.fl) := rr.wide fun b hq => ⟨Nat.le_trans hb.size hq, by omega⟩
    clear hxl rr
    replace hp := hp.below X bb
    replace hb := Below.step hb bb
    replace x := atb x bb
    clear bb
    go_simp
    refine hK _ _ ?_
    clear hK KK
    refine wpAny_ready (rs := [9]) (by decide +kernel) (by simp) ?_
    refine AllReady.cons rfl (fun KK hK => ?_) AllReady.nil
    go_simp
    have hh := X.chain hp.mem.choose_spec.1 HF0.out.1
    (with_reducible refine hh.mono ?_)
    clear hh
    rintro e u5 ⟨A2, k2, rfl, bb, rr⟩
    have hxl := x.lt
    have rb : RowP u5 (fun b => u0.heap.size ≤ b ∧ b ≠ bx) A2 (intsV P0.ch) := rr.wide fun b hq => ⟨Nat.le_trans hb.size hq, by omega⟩
    clear hxl rr
    replace hp := hp.below X bb
    replace hb := Below.step hb bb
    replace x := atb x bb
    replace ra := ra.below bb
    clear bb
    go_simp
    refine hK _ _ ?_
    clear hK KK
    refine wpAny_ready (rs := [11]) (by decide +kernel) (by simp) ?_
    refine AllReady.cons rfl (fun KK hK => ?_) AllReady.nil
    obtain ⟨d0, d1, d2, d3⟩ := four_at x
    have q0 := x.frozen 0
    have q1 := x.frozen 1
    have q2 := x.frozen 2
    have q3 := x.frozen 3
    go_simp
    refine hK _ _ ?_
    clear hK KK d0 d1 d2 d3 q0 q1 q2 q3
    refine Reg.take_at (i := 12) (d := 9) (v := ?_) rfl rfl (by kernel_rfl) (by kernel_rfl) (by kernel_rfl) (fun _ _ _ h => h) (Or.inl ⟨by rfl, ?_⟩) ?_
    rotate_left 1
    ·intro w; go_simp <;> with_reducible rfl
    simp only [Act.put, List.setIfInBounds_toArray, List.set_cons_zero, List.set_cons_succ]
    refine Reg.take_at (i := 13) (d := 10) (v := ?_) rfl rfl (by kernel_rfl) (by kernel_rfl) (by kernel_rfl) (fun _ _ _ h => h) (Or.inl ⟨by rfl, ?_⟩) ?_
    rotate_left 1
    ·intro w; go_simp <;> with_reducible rfl
    simp only [Act.put, List.setIfInBounds_toArray, List.set_cons_zero, List.set_cons_succ]
    refine Reg.take_at (i := 14) (d := 11) (v := ?_) rfl rfl (by kernel_rfl) (by kernel_rfl) (by kernel_rfl) (fun _ _ _ h => h) (Or.inl ⟨by rfl, ?_⟩) ?_
    rotate_left 1
    ·intro w; go_simp <;> with_reducible rfl
    simp only [Act.put, List.setIfInBounds_toArray, List.set_cons_zero, List.set_cons_succ]
    refine wpAny_done (by kernel_rfl) ?_ _
    obtain ⟨Sc, hd, hs⟩ := ga_done X h0 hb x hbz ra rb
    clear hp hb x hbz ra rb h0
    go_wp2_with fail
    go_meet
    exact ⟨_, _, _, _, _, _, rfl, rfl, rfl, rfl, hd, hs⟩
   refine AllReady.cons rfl (fun KK hK => ?_) AllReady.nil
   go_simp
   refine hK _ _ ?_
   clear hK KK
   obtain ⟨u1, hu⟩ : ∃ v, v = u0.alloc (.cells #[.int .i64 0, .int .i64 0, .int .i64 0, .int .i64 0] 29) := ⟨_, rfl⟩
   rw [← hu]
   obtain ⟨bx, hbx⟩ : ∃ v, v = u0.heap.size := ⟨_, rfl⟩
   rw [← hbx]
   have bb : Below u0.heap.size u0 u1 := by rw [hu]; exact al' _ _
   have hbz : u0.heap.size ≤ bx := by rw [hbx]; exact hb.size
   replace hp := hp.below X bb
   replace hb := Below.step hb bb
   clear bb
   have x : At u1 bx 29 #[.int .i64 0, .int .i64 0, .int .i64 0, .int .i64 0] := by rw [hu, hbx]; exact heap_alloc_new _ _
   clear hu hbx
   refine wpAny_ready (rs := [1]) (by decide +kernel) (by simp) ?_
   refine AllReady.cons rfl (fun KK hK => ?_) AllReady.nil
   go_simp
   have hh : Calls Tryz.prog 16 #[.pointer (some ⟨p, 0, none⟩)] u1 (fun e w' => e = .returned (.agg #[.int .i64 P0.x.ep, .int .i64 P0.x.root, .int .i64 P0.x.free, .int .i64 P0.x.pages]) ∧ Below u1.heap.size u1 w') := pm_super X hp
   (with_reducible refine hh.mono ?_)
   clear hh
   rintro e u2 ⟨rfl, bb⟩
   replace hp := hp.below X bb
   replace hb := Below.step hb bb
   replace x := atb x bb
   clear bb
   go_simp
   refine hK _ _ ?_
   clear hK KK
   refine wpAny_ready (rs := [5]) (by decide +kernel) (by simp) ?_
   refine AllReady.cons rfl (fun KK hK => ?_) AllReady.nil
   go_simp
   have hh := pm_pages X hp
   (with_reducible refine hh.mono ?_)
   clear hh
   rintro e u3 ⟨rfl, bb⟩
   replace hp := hp.below X bb
   replace hb := Below.step hb bb
   replace x := atb x bb
   clear bb
   go_simp
   refine hK _ _ ?_
   clear hK KK
   refine wpAny_ready (rs := [7]) (by decide +kernel) (by simp) ?_
   refine AllReady.cons rfl (fun KK hK => ?_) AllReady.nil
   go_simp
   have hh := X.free hp.mem.choose_spec.1 HF0.out.1
   (with_reducible refine hh.mono ?_)
   clear hh
   rintro e u4 ⟨A1, k1, rfl, bb, rr⟩
   have hxl := x.lt
   have ra : RowP u4 (fun b => u0.heap.size ≤ b ∧ b ≠ bx) A1 (fr P0.fl) := rr.wide fun b hq => ⟨Nat.le_trans hb.size hq, by omega⟩
   clear hxl rr
   replace hp := hp.below X bb
   replace hb := Below.step hb bb
   replace x := atb x bb
   clear bb
   go_simp
   refine hK _ _ ?_
   clear hK KK
   refine wpAny_ready (rs := [9]) (by decide +kernel) (by simp) ?_
   refine AllReady.cons rfl (fun KK hK => ?_) AllReady.nil
   go_simp
   have hh := X.chain hp.mem.choose_spec.1 HF0.out.1
   (with_reducible refine hh.mono ?_)
   clear hh
   rintro e u5 ⟨A2, k2, rfl, bb, rr⟩
   have hxl := x.lt
   have rb : RowP u5 (fun b => u0.heap.size ≤ b ∧ b ≠ bx) A2 (intsV P0.ch) := rr.wide fun b hq => ⟨Nat.le_trans hb.size hq, by omega⟩
   clear hxl rr
   replace hp := hp.below X bb
   replace hb := Below.step hb bb
   replace x := atb x bb
   replace ra := ra.below bb
   clear bb
   go_simp
   refine hK _ _ ?_
   clear hK KK
   refine wpAny_ready (rs := [11]) (by decide +kernel) (by simp) ?_
   refine AllReady.cons rfl (fun KK hK => ?_) AllReady.nil
   obtain ⟨d0, d1, d2, d3⟩ := four_at x
   have q0 := x.frozen 0
   have q1 := x.frozen 1
   have q2 := x.frozen 2
   have q3 := x.frozen 3
   go_simp
   refine hK _ _ ?_
   clear hK KK d0 d1 d2 d3 q0 q1 q2 q3
   refine Reg.take_at (i := 12) (d := 9) (v := ?_) rfl rfl (by kernel_rfl) (by kernel_rfl) (by kernel_rfl) (fun _ _ _ h => h) (Or.inl ⟨by rfl, ?_⟩) ?_
   rotate_left 1
   ·intro w; go_simp <;> with_reducible rfl
   simp only [Act.put, List.setIfInBounds_toArray, List.set_cons_zero, List.set_cons_succ]
   refine Reg.take_at (i := 13) (d := 10) (v := ?_) rfl rfl (by kernel_rfl) (by kernel_rfl) (by kernel_rfl) (fun _ _ _ h => h) (Or.inl ⟨by rfl, ?_⟩) ?_
   rotate_left 1
   ·intro w; go_simp <;> with_reducible rfl
   simp only [Act.put, List.setIfInBounds_toArray, List.set_cons_zero, List.set_cons_succ]
   refine Reg.take_at (i := 14) (d := 11) (v := ?_) rfl rfl (by kernel_rfl) (by kernel_rfl) (by kernel_rfl) (fun _ _ _ h => h) (Or.inl ⟨by rfl, ?_⟩) ?_
   rotate_left 1
   ·intro w; go_simp <;> with_reducible rfl
   simp only [Act.put, List.setIfInBounds_toArray, List.set_cons_zero, List.set_cons_succ]
   refine wpAny_done (by kernel_rfl) ?_ _
   obtain ⟨Sc, hd, hs⟩ := ga_done X h0 hb x hbz ra rb
   clear hp hb x hbz ra rb h0
   go_wp2_with fail
   go_meet
   exact ⟨_, _, _, _, _, _, rfl, rfl, rfl, rfl, hd, hs⟩
  case rest =>
   obtain ⟨bx, A1, k1, A2, k2, Sc, rfl, rfl, rfl, rfl, hJ, hsb⟩ := hcut
   clear h0
   have hj := hJ.jp
   have HJ := Lib.hid hJ
   have HSB := Lib.hid hsb
   have HL := Lib.hid (show P0.fl.length ≤ 100000 ∧ P0.ch.length ≤ 100000 from by
    have a := few_free HF0.out.1.inv; have b := few_ch HF0.out.1.inv; have c := HF0.out.1.few; have d := HF0.out.1.inv.len; have f := HF0.out.1.inv.most; omega)
   have HR0 := Lib.hid (show Run M W wc wc p d Sc 100 0 (Still P0) from ⟨P0, ma, hj, HF0.out.1, by have := HF0.out.2.1; omega, by have := HF0.out.2.2; omega, Still.refl _, Turn.refl _ _⟩)
   clear hJ hsb hj
   go_upto_block 2 with fail
   go_cut [12] from 60 to 89 (fun s12 wx => s12 = s12 ∧ ∃ k : Nat, k ≤ 25 ∧ Run M W wc wx p d Sc 100 k (Still P0))
   case first =>
    go_wp2_with fail
    go_loopw [12] (fun i wr => ∃ k : Nat, k ≤ ys.length ∧ k ≤ 25 ∧ i = .int .i64 k ∧ Run M W wc wr p d Sc 100 k (Still P0)) (fun i _ => 25 - (intOf i).toNat)
    case atStart => exact ⟨0, by omega, by omega, rfl, HR0.out⟩
    case round =>
     obtain ⟨k, hk, hkb, rfl, hrun⟩ := hrel
     by_cases hlt : k < ys.length ∧ k < 25
     ·obtain ⟨hl1, hl2⟩ := hlt
      obtain ⟨x, hx⟩ : ∃ x, ys[k]? = some x := ⟨_, List.getElem?_eq_getElem hl1⟩
      obtain ⟨ab, ao, K, ck, hat⟩ := Acts.at HYS.out hrun.base hx
      have hidx := idx_acts (n := ys.length) (c := cy) hat.hA hl1
      obtain ⟨c0, c1, c2, c3, c4, c5, c6⟩ : _ ∧ _ ∧ _ ∧ _ ∧ _ ∧ _ ∧ _ := ⟨hat.c0, hat.c1, hat.c2, hat.c3, hat.c4, hat.c5, hat.c6⟩
      have hcall := few_any wr x K ck hat.row hat.ok.few
      have HAT := Lib.hid hat
      have HRUN := Lib.hid hrun
      clear hat hrun hx
      by_cases hfew : x.cells.length ≤ 130 ∧ ∀ q ∈ x.cells, q.size ≤ 300
      rotate_left
      ·rw [decide_eq_false hfew] at hcall
       clear hfew
       go_wp2_with fail
       (with_reducible refine hcall.mono ?_)
       clear hcall c0 c1 c2 c3 c4 c5 c6
       rintro e wf ⟨rfl, bf⟩
       go_wp2_with fail
       go_roundw
       case rel => exact ⟨k + 1, by omega, by omega, by go_num, HRUN.out.skip X bf (fun _ h => h)⟩
       case measure => simp [intOf]; omega
      rw [decide_eq_true hfew] at hcall
      have HFEW := Lib.hid hfew
      clear hfew
      go_wp2_with fail
      (with_reducible refine hcall.mono ?_)
      clear hcall c0 c1 c2 c3 c4 c5 c6
      rintro e wf ⟨rfl, bf⟩
      have hat := HAT.out.below bf
      obtain ⟨c0, c1, c2, c3, c4, c5, c6⟩ : _ ∧ _ ∧ _ ∧ _ ∧ _ ∧ _ ∧ _ := ⟨hat.c0, hat.c1, hat.c2, hat.c3, hat.c4, hat.c5, hat.c6⟩
      by_cases hk3 : x.kind = 3
      ·have e3 : (x.kind != 3) = false := by simp [hk3]
       clear hk3 hat
       go_wp2_with fail
       go_roundw
       case rel => exact ⟨k + 1, by omega, by omega, by go_num, HRUN.out.skip X bf (fun _ h => h)⟩
       case measure => simp [intOf]; omega
      have e3 : (x.kind != 3) = true := by simpa using hk3
      have HK3 := Lib.hid hk3
      clear hk3
      obtain ⟨P, m, hpm, hfn, hm, hep, hR, htn⟩ := HRUN.out
      have hcall := do_any X (hpm.below X bf) hfn x hat.ok K ck HFEW.out hat.row
      have HS := Lib.hid (And.intro hfn (And.intro hm (And.intro hep (And.intro hR (htn.step (Turn.ofBelow bf))))))
      clear hat hpm hfn hm hep hR htn HRUN HAT bf
      go_wp2_with fail
      (with_reducible refine hcall.mono ?_)
      clear hcall c0 c1 c2 c3 c4 c5 c6 e3
      rintro e wg ⟨rfl, hpm, htn⟩
      have HN := Lib.hid (show Run M W wc wg p d Sc 100 (k + 1) (Still P0) from run_do hpm htn HS.out.2.2.2.2 HS.out.1 HS.out.2.1 HS.out.2.2.1 (by omega) (by omega) (HS.out.2.2.2.1.trans (still_act HS.out.1.inv x HK3.out)))
      go_wp2_with fail
      go_roundw
      case rel => exact ⟨k + 1, by omega, by omega, by go_num, HN.out⟩
      case measure => simp [intOf]; omega
     have hex : (ys.length ≤ k) ∨ (k < ys.length ∧ 25 ≤ k) := by omega
     rcases hex with hex | ⟨hex, hex2⟩
     ·have HRUN := Lib.hid hrun
      clear hrun HR0
      go_wp2_with fail
      go_meet
      exact ⟨trivial, _, by omega, HRUN.out⟩
     ·have HRUN := Lib.hid hrun
      clear hrun HR0
      go_wp2_with fail
      go_meet
      exact ⟨trivial, _, by omega, HRUN.out⟩
   case rest =>
    obtain ⟨_, k, hkb, hrun⟩ := hcut
    clear HR0
    have HRUN := Lib.hid hrun
    clear hrun
    go_upto_region 16 with fail
    obtain ⟨Q, mq, hpm, hfn, hm, hep, hst, htn⟩ := HRUN.out
    have hcall := pm_abort X hpm hfn
    have HQ := Lib.hid (abort_same hst HP0.out)
    have HFQ := Lib.hid (fine_abort hfn (by omega))
    have HTN := Lib.hid htn
    clear HRUN hpm hfn hm hep hst htn
    go_wp2_with fail
    (with_reducible refine hcall.mono ?_)
    clear hcall
    rintro e wq ⟨rfl, hpm, tq⟩
    have hJq : JA M W p d Q.abort P0 (mq + 1000000) Sc bx A1 A2 wq := ja_turn HJ.out (HTN.out.step tq) hpm HSB.out
    clear hpm tq HTN HJ
    generalize Q.abort = P1 at hJq HFQ HQ
    generalize mq + 1000000 = mz at hJq HFQ
    go_upto_region 17 with fail
    have hJ0 := hJq.below X (w' := wq.drew) (Below.refl _ _).drew
    clear hJq
    refine wp_region_any (by kernel_rfl) ?_
    change wpAny _ _ _ _ _ _ _ (World.drew _)
    refine Inv.inv_any (fun (i : Nat) (v : Value) (w : World) => match i with | 0 => v = .pointer (some ⟨p, 0, none⟩) | 1 => v = .agg #[.int .i64 P0.x.ep, .int .i64 P0.x.root, .int .i64 P0.x.free, .int .i64 P0.x.pages] | 2 => v = .agg #[.int .i64 P0.x.ep, .int .i64 P0.x.root, .int .i64 P0.x.free, .int .i64 P0.x.pages] | 3 => v = .bool true | 4 => v = .bool true | 5 => v = .pointer (some ⟨p, 0, none⟩) | 6 => v = .pointer (some ⟨p, 0, none⟩) | 7 => v = .pointer (some ⟨p, 0, none⟩) | 8 => v = .int .i64 P0.pg | 9 => v = .int .i64 P0.pg | 10 => v = .bool true | 11 => v = .bool true | 12 => v = .bool true | 13 => v = .pointer (some ⟨p, 0, none⟩) | 14 => FrV P0.fl v w | 15 => v = .slice A1 P0.fl.length k1 | 16 => v = .bool true | 17 => v = .bool true | 18 => v = .bool true | 19 => v = .pointer (some ⟨p, 0, none⟩) | 20 => InV P0.ch v w | 21 => v = .slice A2 P0.ch.length k2 | 22 => v = .bool true | 23 => v = .bool true | _ => True) (fun w' : World => JA M W p d P1 P0 mz Sc bx A1 A2 w') _ 24 115 rfl rfl rfl (by kernel_rfl) (by kernel_rfl) hJ0 ?_ ?_ ?_ ?_
    ·intro j v w w' h hb
     match j, h with
     | 0, h => exact h
     | 1, h => exact h
     | 2, h => exact h
     | 3, h => exact h
     | 4, h => exact h
     | 5, h => exact h
     | 6, h => exact h
     | 7, h => exact h
     | 8, h => exact h
     | 9, h => exact h
     | 10, h => exact h
     | 11, h => exact h
     | 12, h => exact h
     | 13, h => exact h
     | 14, h => exact FrV.below h hb
     | 15, h => exact h
     | 16, h => exact h
     | 17, h => exact h
     | 18, h => exact h
     | 19, h => exact h
     | 20, h => exact InV.below h hb
     | 21, h => exact h
     | 22, h => exact h
     | 23, h => exact h
     | 24, _ => exact trivial
     | (_ + 25), _ => exact trivial
    ·skip
     refine Inv.from_cons _ _ _ _ rfl (fun _ a w hJ hF F K hK => ?_) ?_
     ·have hz : a.tmps.size = 115 := hF.size
      have e5 : a.tmps[5]? = some (.pointer (some ⟨p, 0, none⟩)) := Inv2.some_slot (by rw [hz]; exact Nat.le_of_ble_eq_true rfl) (hF.slot 5 (by kernel_rfl))
      clear F hF hz
      have hJ1 := hJ
      obtain ⟨jp, jx, jl, jc⟩ := hJ1
      go_simp
      exact hK (.pointer (some ⟨p, 0, none⟩)) _ hJ (Below.refl _ _) rfl
     refine Inv.from_cons _ _ _ _ rfl (fun _ a w hJ hF F K hK => ?_) ?_
     ·have hz : a.tmps.size = 115 := hF.size
      have e91 : a.tmps[91]? = some (.pointer (some ⟨p, 0, none⟩)) := Inv2.some_slot (by rw [hz]; exact Nat.le_of_ble_eq_true rfl) (F 0 (by kernel_rfl) 91 rfl)
      clear F hF hz
      have hJ1 := hJ
      obtain ⟨jp, jx, jl, jc⟩ := hJ1
      have hh := pm_super X jp
      rw [HQ.out.1] at hh
      go_simp
      (with_reducible refine hh.mono ?_)
      rintro e' w' ⟨rfl, hb⟩
      go_simp
      exact hK _ _ (hJ.below X hb) hb rfl
     refine Inv.from_cons _ _ _ _ rfl (fun _ a w hJ hF F K hK => ?_) ?_
     ·have hz : a.tmps.size = 115 := hF.size
      have e8 : a.tmps[8]? = some (.pointer (some ⟨bx, 0, none⟩)) := Inv2.some_slot (by rw [hz]; exact Nat.le_of_ble_eq_true rfl) (hF.slot 8 (by kernel_rfl))
      clear F hF hz
      have hJ1 := hJ
      obtain ⟨jp, jx, jl, jc⟩ := hJ1
      obtain ⟨d0, d1, d2, d3⟩ := four_at jx
      go_simp
      exact hK (.agg #[.int .i64 P0.x.ep, .int .i64 P0.x.root, .int .i64 P0.x.free, .int .i64 P0.x.pages]) _ hJ (Below.refl _ _) rfl
     refine Inv.from_cons _ _ _ _ rfl (fun _ a w hJ hF F K hK => ?_) ?_
     ·have hz : a.tmps.size = 115 := hF.size
      have e92 : a.tmps[92]? = some (.agg #[.int .i64 P0.x.ep, .int .i64 P0.x.root, .int .i64 P0.x.free, .int .i64 P0.x.pages]) := Inv2.some_slot (by rw [hz]; exact Nat.le_of_ble_eq_true rfl) (F 1 (by kernel_rfl) 92 rfl)
      have e93 : a.tmps[93]? = some (.agg #[.int .i64 P0.x.ep, .int .i64 P0.x.root, .int .i64 P0.x.free, .int .i64 P0.x.pages]) := Inv2.some_slot (by rw [hz]; exact Nat.le_of_ble_eq_true rfl) (F 2 (by kernel_rfl) 93 rfl)
      clear F hF hz
      have hJ1 := hJ
      obtain ⟨jp, jx, jl, jc⟩ := hJ1
      go_simp
      exact hK (.bool true) _ hJ (Below.refl _ _) rfl
     refine Inv.from_cons _ _ _ _ rfl (fun _ a w hJ hF F K hK => ?_) ?_
     ·have hz : a.tmps.size = 115 := hF.size
      have e92 : a.tmps[92]? = some (.agg #[.int .i64 P0.x.ep, .int .i64 P0.x.root, .int .i64 P0.x.free, .int .i64 P0.x.pages]) := Inv2.some_slot (by rw [hz]; exact Nat.le_of_ble_eq_true rfl) (F 1 (by kernel_rfl) 92 rfl)
      have e94 : a.tmps[94]? = some (.bool true) := Inv2.some_slot (by rw [hz]; exact Nat.le_of_ble_eq_true rfl) (F 3 (by kernel_rfl) 94 rfl)
      clear F hF hz
      have hJ1 := hJ
      obtain ⟨jp, jx, jl, jc⟩ := hJ1
      go_simp
      exact hK (.bool true) _ hJ (Below.refl _ _) rfl
     refine Inv.from_cons _ _ _ _ rfl (fun _ a w hJ hF F K hK => ?_) ?_
     ·have hz : a.tmps.size = 115 := hF.size
      have e5 : a.tmps[5]? = some (.pointer (some ⟨p, 0, none⟩)) := Inv2.some_slot (by rw [hz]; exact Nat.le_of_ble_eq_true rfl) (hF.slot 5 (by kernel_rfl))
      have e95 : a.tmps[95]? = some (.bool true) := Inv2.some_slot (by rw [hz]; exact Nat.le_of_ble_eq_true rfl) (F 4 (by kernel_rfl) 95 rfl)
      clear F hF hz
      have hJ1 := hJ
      obtain ⟨jp, jx, jl, jc⟩ := hJ1
      go_simp
      exact hK (.pointer (some ⟨p, 0, none⟩)) _ hJ (Below.refl _ _) rfl
     refine Inv.from_cons _ _ _ _ rfl (fun _ a w hJ hF F K hK => ?_) ?_
     ·have hz : a.tmps.size = 115 := hF.size
      have e95 : a.tmps[95]? = some (.bool true) := Inv2.some_slot (by rw [hz]; exact Nat.le_of_ble_eq_true rfl) (F 4 (by kernel_rfl) 95 rfl)
      have e96 : a.tmps[96]? = some (.pointer (some ⟨p, 0, none⟩)) := Inv2.some_slot (by rw [hz]; exact Nat.le_of_ble_eq_true rfl) (F 5 (by kernel_rfl) 96 rfl)
      clear F hF hz
      have hJ1 := hJ
      obtain ⟨jp, jx, jl, jc⟩ := hJ1
      go_simp
      exact hK (.pointer (some ⟨p, 0, none⟩)) _ hJ (Below.refl _ _) rfl
     refine Inv.from_cons _ _ _ _ rfl (fun _ a w hJ hF F K hK => ?_) ?_
     ·have hz : a.tmps.size = 115 := hF.size
      have e95 : a.tmps[95]? = some (.bool true) := Inv2.some_slot (by rw [hz]; exact Nat.le_of_ble_eq_true rfl) (F 4 (by kernel_rfl) 95 rfl)
      have e97 : a.tmps[97]? = some (.pointer (some ⟨p, 0, none⟩)) := Inv2.some_slot (by rw [hz]; exact Nat.le_of_ble_eq_true rfl) (F 6 (by kernel_rfl) 97 rfl)
      clear F hF hz
      have hJ1 := hJ
      obtain ⟨jp, jx, jl, jc⟩ := hJ1
      go_simp
      exact hK (.pointer (some ⟨p, 0, none⟩)) _ hJ (Below.refl _ _) rfl
     refine Inv.from_cons _ _ _ _ rfl (fun _ a w hJ hF F K hK => ?_) ?_
     ·have hz : a.tmps.size = 115 := hF.size
      have e95 : a.tmps[95]? = some (.bool true) := Inv2.some_slot (by rw [hz]; exact Nat.le_of_ble_eq_true rfl) (F 4 (by kernel_rfl) 95 rfl)
      have e98 : a.tmps[98]? = some (.pointer (some ⟨p, 0, none⟩)) := Inv2.some_slot (by rw [hz]; exact Nat.le_of_ble_eq_true rfl) (F 7 (by kernel_rfl) 98 rfl)
      clear F hF hz
      have hJ1 := hJ
      obtain ⟨jp, jx, jl, jc⟩ := hJ1
      have hh := pm_pages X jp
      rw [HQ.out.2.1] at hh
      go_simp
      (with_reducible refine hh.mono ?_)
      rintro e' w' ⟨rfl, hb⟩
      go_simp
      exact hK _ _ (hJ.below X hb) hb rfl
     refine Inv.from_cons _ _ _ _ rfl (fun _ a w hJ hF F K hK => ?_) ?_
     ·have hz : a.tmps.size = 115 := hF.size
      have e9 : a.tmps[9]? = some (.int .i64 P0.pg) := Inv2.some_slot (by rw [hz]; exact Nat.le_of_ble_eq_true rfl) (hF.slot 9 (by kernel_rfl))
      have e95 : a.tmps[95]? = some (.bool true) := Inv2.some_slot (by rw [hz]; exact Nat.le_of_ble_eq_true rfl) (F 4 (by kernel_rfl) 95 rfl)
      clear F hF hz
      have hJ1 := hJ
      obtain ⟨jp, jx, jl, jc⟩ := hJ1
      go_simp
      exact hK (.int .i64 P0.pg) _ hJ (Below.refl _ _) rfl
     refine Inv.from_cons _ _ _ _ rfl (fun _ a w hJ hF F K hK => ?_) ?_
     ·have hz : a.tmps.size = 115 := hF.size
      have e95 : a.tmps[95]? = some (.bool true) := Inv2.some_slot (by rw [hz]; exact Nat.le_of_ble_eq_true rfl) (F 4 (by kernel_rfl) 95 rfl)
      have e99 : a.tmps[99]? = some (.int .i64 P0.pg) := Inv2.some_slot (by rw [hz]; exact Nat.le_of_ble_eq_true rfl) (F 8 (by kernel_rfl) 99 rfl)
      have e100 : a.tmps[100]? = some (.int .i64 P0.pg) := Inv2.some_slot (by rw [hz]; exact Nat.le_of_ble_eq_true rfl) (F 9 (by kernel_rfl) 100 rfl)
      clear F hF hz
      have hJ1 := hJ
      obtain ⟨jp, jx, jl, jc⟩ := hJ1
      go_simp
      exact hK (.bool true) _ hJ (Below.refl _ _) rfl
     refine Inv.from_cons _ _ _ _ rfl (fun _ a w hJ hF F K hK => ?_) ?_
     ·have hz : a.tmps.size = 115 := hF.size
      have e95 : a.tmps[95]? = some (.bool true) := Inv2.some_slot (by rw [hz]; exact Nat.le_of_ble_eq_true rfl) (F 4 (by kernel_rfl) 95 rfl)
      have e101 : a.tmps[101]? = some (.bool true) := Inv2.some_slot (by rw [hz]; exact Nat.le_of_ble_eq_true rfl) (F 10 (by kernel_rfl) 101 rfl)
      clear F hF hz
      have hJ1 := hJ
      obtain ⟨jp, jx, jl, jc⟩ := hJ1
      go_simp
      exact hK (.bool true) _ hJ (Below.refl _ _) rfl
     refine Inv.from_cons _ _ _ _ rfl (fun _ a w hJ hF F K hK => ?_) ?_
     ·have hz : a.tmps.size = 115 := hF.size
      have e99 : a.tmps[99]? = some (.int .i64 P0.pg) := Inv2.some_slot (by rw [hz]; exact Nat.le_of_ble_eq_true rfl) (F 8 (by kernel_rfl) 99 rfl)
      have e102 : a.tmps[102]? = some (.bool true) := Inv2.some_slot (by rw [hz]; exact Nat.le_of_ble_eq_true rfl) (F 11 (by kernel_rfl) 102 rfl)
      clear F hF hz
      have hJ1 := hJ
      obtain ⟨jp, jx, jl, jc⟩ := hJ1
      go_simp
      exact hK (.bool true) _ hJ (Below.refl _ _) rfl
     refine Inv.from_cons _ _ _ _ rfl (fun _ a w hJ hF F K hK => ?_) ?_
     ·have hz : a.tmps.size = 115 := hF.size
      have e5 : a.tmps[5]? = some (.pointer (some ⟨p, 0, none⟩)) := Inv2.some_slot (by rw [hz]; exact Nat.le_of_ble_eq_true rfl) (hF.slot 5 (by kernel_rfl))
      have e103 : a.tmps[103]? = some (.bool true) := Inv2.some_slot (by rw [hz]; exact Nat.le_of_ble_eq_true rfl) (F 12 (by kernel_rfl) 103 rfl)
      clear F hF hz
      have hJ1 := hJ
      obtain ⟨jp, jx, jl, jc⟩ := hJ1
      go_simp
      exact hK (.pointer (some ⟨p, 0, none⟩)) _ hJ (Below.refl _ _) rfl
     refine Inv.from_cons _ _ _ _ rfl (fun _ a w hJ hF F K hK => ?_) ?_
     ·have hz : a.tmps.size = 115 := hF.size
      have e103 : a.tmps[103]? = some (.bool true) := Inv2.some_slot (by rw [hz]; exact Nat.le_of_ble_eq_true rfl) (F 12 (by kernel_rfl) 103 rfl)
      have e104 : a.tmps[104]? = some (.pointer (some ⟨p, 0, none⟩)) := Inv2.some_slot (by rw [hz]; exact Nat.le_of_ble_eq_true rfl) (F 13 (by kernel_rfl) 104 rfl)
      clear F hF hz
      have hJ1 := hJ
      obtain ⟨jp, jx, jl, jc⟩ := hJ1
      have hh := pm_free X jp HFQ.out
      rw [HQ.out.2.2.1] at hh
      go_simp
      (with_reducible refine hh.mono ?_)
      rintro e' w' ⟨A3, c3, rfl, hb, _, hr3⟩
      go_simp
      exact hK _ _ (hJ.below X hb) hb ⟨A3, c3, rfl, hr3.row⟩
     refine Inv.from_cons _ _ _ _ rfl (fun _ a w hJ hF F K hK => ?_) ?_
     ·have hz : a.tmps.size = 115 := hF.size
      have e10 : a.tmps[10]? = some (.slice A1 P0.fl.length k1) := Inv2.some_slot (by rw [hz]; exact Nat.le_of_ble_eq_true rfl) (hF.slot 10 (by kernel_rfl))
      have e103 : a.tmps[103]? = some (.bool true) := Inv2.some_slot (by rw [hz]; exact Nat.le_of_ble_eq_true rfl) (F 12 (by kernel_rfl) 103 rfl)
      clear F hF hz
      have hJ1 := hJ
      obtain ⟨jp, jx, jl, jc⟩ := hJ1
      go_simp
      exact hK (.slice A1 P0.fl.length k1) _ hJ (Below.refl _ _) rfl
     refine Inv.from_cons _ _ _ _ rfl (fun _ a w hJ hF F K hK => ?_) ?_
     ·have hz : a.tmps.size = 115 := hF.size
      have e103 : a.tmps[103]? = some (.bool true) := Inv2.some_slot (by rw [hz]; exact Nat.le_of_ble_eq_true rfl) (F 12 (by kernel_rfl) 103 rfl)
      obtain ⟨x105, e105, f14⟩ : ∃ xv, a.tmps[105]? = some xv ∧ FrV P0.fl xv w := ⟨_, Inv2.some_slot (by rw [hz]; exact Nat.le_of_ble_eq_true rfl) rfl, F 14 (by kernel_rfl) 105 rfl⟩
      have e106 : a.tmps[106]? = some (.slice A1 P0.fl.length k1) := Inv2.some_slot (by rw [hz]; exact Nat.le_of_ble_eq_true rfl) (F 15 (by kernel_rfl) 106 rfl)
      clear F hF hz
      have hJ1 := hJ
      obtain ⟨jp, jx, jl, jc⟩ := hJ1
      obtain ⟨A3, c3, rfl, hr3⟩ := f14
      have hh := FreeCheck.rsame_any w A3 A1 P0.fl.length c3 P0.fl.length k1 P0.fl P0.fl true rfl rfl hr3 jl.row HL.out.1 (iff_of_true rfl rfl)
      go_simp
      (with_reducible refine hh.mono ?_)
      rintro e' w' ⟨rfl, hb⟩
      go_simp
      exact hK _ _ (hJ.below X hb) hb rfl
     refine Inv.from_cons _ _ _ _ rfl (fun _ a w hJ hF F K hK => ?_) ?_
     ·have hz : a.tmps.size = 115 := hF.size
      have e103 : a.tmps[103]? = some (.bool true) := Inv2.some_slot (by rw [hz]; exact Nat.le_of_ble_eq_true rfl) (F 12 (by kernel_rfl) 103 rfl)
      have e107 : a.tmps[107]? = some (.bool true) := Inv2.some_slot (by rw [hz]; exact Nat.le_of_ble_eq_true rfl) (F 16 (by kernel_rfl) 107 rfl)
      clear F hF hz
      have hJ1 := hJ
      obtain ⟨jp, jx, jl, jc⟩ := hJ1
      go_simp
      exact hK (.bool true) _ hJ (Below.refl _ _) rfl
     refine Inv.from_cons _ _ _ _ rfl (fun _ a w hJ hF F K hK => ?_) ?_
     ·have hz : a.tmps.size = 115 := hF.size
      have e107 : a.tmps[107]? = some (.bool true) := Inv2.some_slot (by rw [hz]; exact Nat.le_of_ble_eq_true rfl) (F 16 (by kernel_rfl) 107 rfl)
      have e108 : a.tmps[108]? = some (.bool true) := Inv2.some_slot (by rw [hz]; exact Nat.le_of_ble_eq_true rfl) (F 17 (by kernel_rfl) 108 rfl)
      clear F hF hz
      have hJ1 := hJ
      obtain ⟨jp, jx, jl, jc⟩ := hJ1
      go_simp
      exact hK (.bool true) _ hJ (Below.refl _ _) rfl
     refine Inv.from_cons _ _ _ _ rfl (fun _ a w hJ hF F K hK => ?_) ?_
     ·have hz : a.tmps.size = 115 := hF.size
      have e5 : a.tmps[5]? = some (.pointer (some ⟨p, 0, none⟩)) := Inv2.some_slot (by rw [hz]; exact Nat.le_of_ble_eq_true rfl) (hF.slot 5 (by kernel_rfl))
      have e109 : a.tmps[109]? = some (.bool true) := Inv2.some_slot (by rw [hz]; exact Nat.le_of_ble_eq_true rfl) (F 18 (by kernel_rfl) 109 rfl)
      clear F hF hz
      have hJ1 := hJ
      obtain ⟨jp, jx, jl, jc⟩ := hJ1
      go_simp
      exact hK (.pointer (some ⟨p, 0, none⟩)) _ hJ (Below.refl _ _) rfl
     refine Inv.from_cons _ _ _ _ rfl (fun _ a w hJ hF F K hK => ?_) ?_
     ·have hz : a.tmps.size = 115 := hF.size
      have e109 : a.tmps[109]? = some (.bool true) := Inv2.some_slot (by rw [hz]; exact Nat.le_of_ble_eq_true rfl) (F 18 (by kernel_rfl) 109 rfl)
      have e110 : a.tmps[110]? = some (.pointer (some ⟨p, 0, none⟩)) := Inv2.some_slot (by rw [hz]; exact Nat.le_of_ble_eq_true rfl) (F 19 (by kernel_rfl) 110 rfl)
      clear F hF hz
      have hJ1 := hJ
      obtain ⟨jp, jx, jl, jc⟩ := hJ1
      have hh := pm_chain X jp HFQ.out
      rw [HQ.out.2.2.2] at hh
      go_simp
      (with_reducible refine hh.mono ?_)
      rintro e' w' ⟨A3, c3, rfl, hb, _, hr3⟩
      go_simp
      exact hK _ _ (hJ.below X hb) hb ⟨A3, c3, rfl, hr3.row⟩
     refine Inv.from_cons _ _ _ _ rfl (fun _ a w hJ hF F K hK => ?_) ?_
     ·have hz : a.tmps.size = 115 := hF.size
      have e11 : a.tmps[11]? = some (.slice A2 P0.ch.length k2) := Inv2.some_slot (by rw [hz]; exact Nat.le_of_ble_eq_true rfl) (hF.slot 11 (by kernel_rfl))
      have e109 : a.tmps[109]? = some (.bool true) := Inv2.some_slot (by rw [hz]; exact Nat.le_of_ble_eq_true rfl) (F 18 (by kernel_rfl) 109 rfl)
      clear F hF hz
      have hJ1 := hJ
      obtain ⟨jp, jx, jl, jc⟩ := hJ1
      go_simp
      exact hK (.slice A2 P0.ch.length k2) _ hJ (Below.refl _ _) rfl
     refine Inv.from_cons _ _ _ _ rfl (fun _ a w hJ hF F K hK => ?_) ?_
     ·have hz : a.tmps.size = 115 := hF.size
      have e109 : a.tmps[109]? = some (.bool true) := Inv2.some_slot (by rw [hz]; exact Nat.le_of_ble_eq_true rfl) (F 18 (by kernel_rfl) 109 rfl)
      obtain ⟨x111, e111, f20⟩ : ∃ xv, a.tmps[111]? = some xv ∧ InV P0.ch xv w := ⟨_, Inv2.some_slot (by rw [hz]; exact Nat.le_of_ble_eq_true rfl) rfl, F 20 (by kernel_rfl) 111 rfl⟩
      have e112 : a.tmps[112]? = some (.slice A2 P0.ch.length k2) := Inv2.some_slot (by rw [hz]; exact Nat.le_of_ble_eq_true rfl) (F 21 (by kernel_rfl) 112 rfl)
      clear F hF hz
      have hJ1 := hJ
      obtain ⟨jp, jx, jl, jc⟩ := hJ1
      obtain ⟨A3, c3, rfl, hr3⟩ := f20
      have hh := PagerSame.rsame_ints w A3 A2 P0.ch.length c3 P0.ch.length k2 P0.ch P0.ch true rfl rfl hr3 jc.row HL.out.2 (iff_of_true rfl rfl)
      go_simp
      (with_reducible refine hh.mono ?_)
      rintro e' w' ⟨rfl, hb⟩
      go_simp
      exact hK _ _ (hJ.below X hb) hb rfl
     refine Inv.from_cons _ _ _ _ rfl (fun _ a w hJ hF F K hK => ?_) ?_
     ·have hz : a.tmps.size = 115 := hF.size
      have e109 : a.tmps[109]? = some (.bool true) := Inv2.some_slot (by rw [hz]; exact Nat.le_of_ble_eq_true rfl) (F 18 (by kernel_rfl) 109 rfl)
      have e113 : a.tmps[113]? = some (.bool true) := Inv2.some_slot (by rw [hz]; exact Nat.le_of_ble_eq_true rfl) (F 22 (by kernel_rfl) 113 rfl)
      clear F hF hz
      have hJ1 := hJ
      obtain ⟨jp, jx, jl, jc⟩ := hJ1
      go_simp
      exact hK (.bool true) _ hJ (Below.refl _ _) rfl
     refine Inv.from_skip _ _ _ _ rfl ?_
     exact Inv.from_end _ _ _ _ (by decide +kernel)
    ·intro o ho a w hJ hF F K hK
     injection (show some _ = some o from ho) with ho
     subst ho
     obtain ⟨f, hf⟩ : ∃ f : Nat → Value, ∀ i, a.tmps.getD i undef = f i := ⟨_, fun _ => rfl⟩
     have g5 : f 5 = (.pointer (some ⟨p, 0, none⟩)) := (hf 5).symm.trans (hF.slot 5 (by kernel_rfl))
     have g8 : f 8 = (.pointer (some ⟨bx, 0, none⟩)) := (hf 8).symm.trans (hF.slot 8 (by kernel_rfl))
     have g9 : f 9 = (.int .i64 P0.pg) := (hf 9).symm.trans (hF.slot 9 (by kernel_rfl))
     have g10 : f 10 = (.slice A1 P0.fl.length k1) := (hf 10).symm.trans (hF.slot 10 (by kernel_rfl))
     have g11 : f 11 = (.slice A2 P0.ch.length k2) := (hf 11).symm.trans (hF.slot 11 (by kernel_rfl))
     have g91 : f 91 = (.pointer (some ⟨p, 0, none⟩)) := (hf 91).symm.trans (F 0 (by decide) 91 rfl)
     have g92 : f 92 = (.agg #[.int .i64 P0.x.ep, .int .i64 P0.x.root, .int .i64 P0.x.free, .int .i64 P0.x.pages]) := (hf 92).symm.trans (F 1 (by decide) 92 rfl)
     have g93 : f 93 = (.agg #[.int .i64 P0.x.ep, .int .i64 P0.x.root, .int .i64 P0.x.free, .int .i64 P0.x.pages]) := (hf 93).symm.trans (F 2 (by decide) 93 rfl)
     have g94 : f 94 = (.bool true) := (hf 94).symm.trans (F 3 (by decide) 94 rfl)
     have g95 : f 95 = (.bool true) := (hf 95).symm.trans (F 4 (by decide) 95 rfl)
     have g96 : f 96 = (.pointer (some ⟨p, 0, none⟩)) := (hf 96).symm.trans (F 5 (by decide) 96 rfl)
     have g97 : f 97 = (.pointer (some ⟨p, 0, none⟩)) := (hf 97).symm.trans (F 6 (by decide) 97 rfl)
     have g98 : f 98 = (.pointer (some ⟨p, 0, none⟩)) := (hf 98).symm.trans (F 7 (by decide) 98 rfl)
     have g99 : f 99 = (.int .i64 P0.pg) := (hf 99).symm.trans (F 8 (by decide) 99 rfl)
     have g100 : f 100 = (.int .i64 P0.pg) := (hf 100).symm.trans (F 9 (by decide) 100 rfl)
     have g101 : f 101 = (.bool true) := (hf 101).symm.trans (F 10 (by decide) 101 rfl)
     have g102 : f 102 = (.bool true) := (hf 102).symm.trans (F 11 (by decide) 102 rfl)
     have g103 : f 103 = (.bool true) := (hf 103).symm.trans (F 12 (by decide) 103 rfl)
     have g104 : f 104 = (.pointer (some ⟨p, 0, none⟩)) := (hf 104).symm.trans (F 13 (by decide) 104 rfl)
     obtain ⟨x105, g105⟩ : ∃ x, f 105 = x := ⟨_, rfl⟩
     have f14 : FrV P0.fl x105 w := by rw [← g105, ← hf 105]; exact F 14 (by decide) 105 rfl
     have g106 : f 106 = (.slice A1 P0.fl.length k1) := (hf 106).symm.trans (F 15 (by decide) 106 rfl)
     have g107 : f 107 = (.bool true) := (hf 107).symm.trans (F 16 (by decide) 107 rfl)
     have g108 : f 108 = (.bool true) := (hf 108).symm.trans (F 17 (by decide) 108 rfl)
     have g109 : f 109 = (.bool true) := (hf 109).symm.trans (F 18 (by decide) 109 rfl)
     have g110 : f 110 = (.pointer (some ⟨p, 0, none⟩)) := (hf 110).symm.trans (F 19 (by decide) 110 rfl)
     obtain ⟨x111, g111⟩ : ∃ x, f 111 = x := ⟨_, rfl⟩
     have f20 : InV P0.ch x111 w := by rw [← g111, ← hf 111]; exact F 20 (by decide) 111 rfl
     have g112 : f 112 = (.slice A2 P0.ch.length k2) := (hf 112).symm.trans (F 21 (by decide) 112 rfl)
     have g113 : f 113 = (.bool true) := (hf 113).symm.trans (F 22 (by decide) 113 rfl)
     have g114 : f 114 = (.bool true) := (hf 114).symm.trans (F 23 (by decide) 114 rfl)
     have ha := Frames.frame (show a.tmps.size = 115 from hF.size) hF.defers hf (l := [f 0, f 1, f 2, f 3, f 4, f 5, f 6, f 7, f 8, f 9, f 10, f 11, f 12, f 13, f 14, f 15, f 16, f 17, f 18, f 19, f 20, f 21, f 22, f 23, f 24, f 25, f 26, f 27, f 28, f 29, f 30, f 31, f 32, f 33, f 34, f 35, f 36, f 37, f 38, f 39, f 40, f 41, f 42, f 43, f 44, f 45, f 46, f 47, f 48, f 49, f 50, f 51, f 52, f 53, f 54, f 55, f 56, f 57, f 58, f 59, f 60, f 61, f 62, f 63, f 64, f 65, f 66, f 67, f 68, f 69, f 70, f 71, f 72, f 73, f 74, f 75, f 76, f 77, f 78, f 79, f 80, f 81, f 82, f 83, f 84, f 85, f 86, f 87, f 88, f 89, f 90, f 91, f 92, f 93, f 94, f 95, f 96, f 97, f 98, f 99, f 100, f 101, f 102, f 103, f 104, f 105, f 106, f 107, f 108, f 109, f 110, f 111, f 112, f 113, f 114]) rfl
     simp only [g5, g8, g9, g10, g11, g91, g92, g93, g94, g95, g96, g97, g98, g99, g100, g101, g102, g103, g104, g105, g106, g107, g108, g109, g110, g111, g112, g113, g114] at ha
     clear F hF hf g5 g8 g9 g10 g11 g91 g92 g93 g94 g95 g96 g97 g98 g99 g100 g101 g102 g103 g104 g105 g106 g107 g108 g109 g110 g111 g112 g113 g114
     subst ha
     have hJ1 := hJ
     obtain ⟨jp, jx, jl, jc⟩ := hJ1
     have HB := Lib.hid jp.base
     clear hJ f14 f20 jl jc jx jp
     go_simp
     refine hK _ _ ?_
     clear hK
     go_wp2_with fail
     go_ret
     exact ⟨rfl, HB.out⟩
    ·intro hq; exact absurd hq (by decide +kernel)
end Go.Proofs.YtpidnkfcccboaaaGreat.PagerAborts
