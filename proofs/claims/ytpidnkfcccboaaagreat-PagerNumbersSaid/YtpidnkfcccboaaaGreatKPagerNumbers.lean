/- The walk of PagerNumbers, by what the calls are asked for. -/
import Derived.Test.YtpidnkfcccboaaaGreatKFreeCover
import Derived.Test.YtpidnkfcccboaaaGreatKInv4
import Derived.Test.YtpidnkfcccboaaaGreatKPageRef
import Derived.Test.YtpidnkfcccboaaaGreatKPagerCells
import Derived.Test.YtpidnkfcccboaaaGreatKPagerRun
import Derived.Deep.CutBlock
namespace Go.Proofs.YtpidnkfcccboaaaGreat.PagerNumbers
open Go.RowKit Base PagePlain PageSmall FreePlain FreeMem SuperPlain SuperRefCheck PagerPlain PagerTold PagerNum PagerSpec PagerPlumb PagerLaw PagerDo PagerAwake PagerRun DiskMem
open Go.Maps
open FreeCov (Cnt cnt_nil cnt_put kl vl D1)
open FreeCover (OM lawI zeroI wf_small)

theorem el_ints : Elem Tryz.prog 32 3 8 := elem_mk (z := .int .i64 0) Tryz.underlying32 (by kernel_rfl) rfl
theorem own_rows {w : World} {B c : Nat} {e : TypeId} {A : Option Addr} {xs : List Value} {S : Blks} (h : Own w B e A c xs) (hS : ∀ b, (Value.slice A xs.length c).ownBlock = some b → S b) : RowP w S A xs := fun k v hv => by
 obtain ⟨ad, e1, hb, hc⟩ := h.row k v hv
 exact ⟨ad, e1, hS _ (by rw [e1]; rfl), hb, hc⟩
theorem one_int {w : World} {b : Nat} {z : Int} (h : At w b 3 #[.int .i64 z]) : Row w w.heap.size (some ⟨b, 0, none⟩) [.int .i64 z] := fun k v hv => by
 refine ⟨_, rfl, h.lt, ?_⟩
 have e : (⟨b, 0, none⟩ : Addr).add k = ⟨b, k, none⟩ := by unfold Addr.add; split <;> simp_all
 rw [e, h.cell]
 simpa using hv
/-- one text in a block -/
def NSt (s : ByteArray) (v : Value) (w : World) : Prop := ∃ b, v = .slice (some ⟨b, 0, none⟩) 1 1 ∧ At w b 9 #[.string s]
theorem NSt.below {s : ByteArray} {v : Value} {w w' : World} (h : NSt s v w) (hb : Below w.heap.size w w') : NSt s v w' := by
 obtain ⟨b, h1, h2⟩ := h
 exact ⟨b, h1, atb h2 hb⟩
def NPg (no ep : Int) (s : ByteArray) (v : Value) (w : World) : Prop := ∃ b, v = .agg #[.int .i64 1, .int .i64 no, .int .i64 ep, .int .i64 0, .slice (some ⟨b, 0, none⟩) 1 1] ∧ At w b 9 #[.string s]
theorem NPg.below {no ep : Int} {s : ByteArray} {v : Value} {w w' : World} (h : NPg no ep s v w) (hb : Below w.heap.size w w') : NPg no ep s v w' := by
 obtain ⟨b, h1, h2⟩ := h
 exact ⟨b, h1, atb h2 hb⟩
theorem one_row {w : World} {b : Nat} {s : ByteArray} (h : At w b 9 #[.string s]) : Row w w.heap.size (some ⟨b, 0, none⟩) (strs [s]) := fun k v hv => by
 refine ⟨_, rfl, h.lt, ?_⟩
 have e : (⟨b, 0, none⟩ : Addr).add k = ⟨b, k, none⟩ := by unfold Addr.add; split <;> simp_all
 rw [e, h.cell]
 simpa [strs] using hv
/-- what stands while a page is held against what it should be -/
structure JN (M : Mem) (W : World) (p d : Nat) (P : PS) (m : Int) (S : Blks) (bx : Nat) (no : Int) (s : ByteArray) (A3 : Option Addr) (c3 : Nat) (ad bd : Addr) (cn k : Nat) (w : World) : Prop where
 jp : PM M W w p d P m S
 jx : At w bx 69 #[.int .i64 1, .int .i64 no, .int .i64 (P.x.ep + 1), .int .i64 0, .slice A3 1 c3]
 jr : Row w w.heap.size A3 (strs [s])
 jn : w.cell? (ad.add k) = some (.int .i64 no)
 js : w.cell? (bd.add k) = some (.string s)
 jw : RowP w S (some ad) (intsV P.nw)
theorem om_same {w w' : World} {b n : Nat} {D : D1} (h : OM w b n D) (e : w'.heap[b]? = w.heap[b]?) : OM w' b n D := by
 obtain ⟨es, clock, hb, r⟩ := h
 exact ⟨es, clock, e.trans hb, r⟩
theorem JN.below {M : Mem} (X : Specs M) {W : World} {p d : Nat} {P : PS} {m : Int} {S : Blks} {bx : Nat} {no : Int} {s : ByteArray} {A3 : Option Addr} {c3 : Nat} {ad bd : Addr} {cn k : Nat} {w w' : World} (h : JN M W p d P m S bx no s A3 c3 ad bd cn k w) (hb : Below w.heap.size w w') : JN M W p d P m S bx no s A3 c3 ad bd cn k w' := by
 have h1 : (ad.add k).block < w.heap.size := World.block_lt_of_cell? w _ h.jn
 have h2 : (bd.add k).block < w.heap.size := World.block_lt_of_cell? w _ h.js
 exact ⟨h.jp.below X hb, atb h.jx hb, h.jr.belowSize hb, (hb.cell h1).trans h.jn, (hb.cell h2).trans h.js, h.jw.below hb⟩
/-- pages made so far: the map of what was seen, the list of numbers -/
structure Nm (M : Mem) (W : World) (p d mb base : Nat) (ls : List ByteArray) (k : Nat) (P : PS) (m : Int) (S : Blks) (A : Option Addr) (c : Nat) (D : D1) (w : World) : Prop where
 pm : PM M W w p d P m S
 om : OM w mb k D
 cnt : Cnt P.nw D
 own : Own w base 3 A c (intsV P.nw)
 so : ∀ b, (Value.slice A (intsV P.nw).length c).ownBlock = some b → S b ∧ W.heap.size ≤ b
 sm : S mb ∧ W.heap.size ≤ mb
 made : Made P (ls.take k)
 fine : Fine P m
 mm : m ≤ 1000000 * ((k : Int) + 200)
 pg : P.pg ≤ 62 + (k : Int)
 most : P.most = 300
 ep : P.x.ep ≤ 1000
 sz : ∀ s ∈ ls.take k, s.size ≤ 200
theorem row_cell {w : World} {S : Blks} {ad : Addr} {vs : List Value} {k : Nat} {v : Value} (h : RowP w S (some ad) vs) (hv : vs[k]? = some v) : w.cell? (ad.add k) = some v := by
 obtain ⟨ad2, e1, _, _, e4⟩ := h k v hv
 injection e1 with e1; subst e1; exact e4
theorem row_nx {u : World} {bx : Nat} {A : Option Addr} {vs : List Value} (h : RowP u (fun _ => True) A vs) (hbx : bx = u.heap.size) : RowP u (fun b => b ≠ bx) A vs := fun k v hv => by
 obtain ⟨ad, a, b, c, e⟩ := h k v hv
 exact ⟨ad, a, by show ad.block ≠ bx; omega, c, e⟩
theorem pm_read2 {M : Mem} (X : Specs M) {W w : World} {p d : Nat} {P : PS} {m : Int} {S : Blks} (h : PM M W w p d P m S) (hf : Fine P m) (no : Int) (hn : In no) {q : Pg} (hr : rdP P no = .inr q) :
  Calls Tryz.prog 25 #[.pointer (some ⟨p, 0, none⟩), .int .i64 no] w fun e w' => ∃ N : Blks, PM M W w' p d P (m + 1000) (fun b => S b ∨ N b) ∧ Turn (Not S) w w' ∧ (∀ b, N b → w.heap.size ≤ b) ∧ ∃ A c, e = .returned (.tuple #[pv q A c, .int .i64 0]) ∧ RowP w' N A (strs q.cells) := by
 have hh := h
 obtain ⟨⟨F, h1, hF⟩, _⟩ := hh
 have hc := X.read no h1 hf hn
 rw [hr] at hc
 refine hc.mono fun e w' ⟨N, g, hq⟩ => ?_
 obtain ⟨a, b⟩ := h.gone hF g
 obtain ⟨_, _, _, _, g4⟩ := g
 exact ⟨N, a, b, fun b hb => (g4 b hb).1, hq⟩
theorem jn_done {M : Mem} (X : Specs M) {W u u0 : World} {p d bx : Nat} {P : PS} {m : Int} {S : Blks} {no : Int} {s : ByteArray} {A3 : Option Addr} {c3 c k : Nat} {ad bd : Addr} {z0 z1 z2 z3 z4 : Value} (hp : PM M W u p d P m S) (x : At u bx 69 #[z0, z1, z2, z3, z4]) (hs : S bx) (hbz : u0.heap.size ≤ bx) (hne : ad.block < u0.heap.size)
  (rr : RowP u S (some ad) (intsV P.nw)) (rq : RowP u (fun b => b ≠ bx) A3 (strs [s])) (hv : (intsV P.nw)[k]? = some (.int .i64 no)) (hbb : bd.block < W.heap.size) (hsw : W.cell? (bd.add k) = some (.string s)) (hW : W.heap.size ≤ u0.heap.size) :
  JN M W p d P m (Plus S u (((((u.setCell ⟨bx, 0, none⟩ (.int .i64 1)).setCell ⟨bx, 1, none⟩ (.int .i64 no)).setCell ⟨bx, 2, none⟩ (.int .i64 (P.x.ep + 1))).setCell ⟨bx, 3, none⟩ (.int .i64 0)).setCell ⟨bx, 4, none⟩ (.slice A3 1 c3))) bx no s A3 c3 ad bd c k
   (((((u.setCell ⟨bx, 0, none⟩ (.int .i64 1)).setCell ⟨bx, 1, none⟩ (.int .i64 no)).setCell ⟨bx, 2, none⟩ (.int .i64 (P.x.ep + 1))).setCell ⟨bx, 3, none⟩ (.int .i64 0)).setCell ⟨bx, 4, none⟩ (.slice A3 1 c3)) := by
 have t : Turn (fun i => i = bx) u (((((u.setCell ⟨bx, 0, none⟩ (.int .i64 1)).setCell ⟨bx, 1, none⟩ (.int .i64 no)).setCell ⟨bx, 2, none⟩ (.int .i64 (P.x.ep + 1))).setCell ⟨bx, 3, none⟩ (.int .i64 0)).setCell ⟨bx, 4, none⟩ (.slice A3 1 c3)) :=
  (((((Turn.refl (fun i => i = bx) u).set ⟨bx, 0, none⟩ (Or.inr rfl) _).set ⟨bx, 1, none⟩ (Or.inr rfl) _).set ⟨bx, 2, none⟩ (Or.inr rfl) _).set ⟨bx, 3, none⟩ (Or.inr rfl) _).set ⟨bx, 4, none⟩ (Or.inr rfl) _
 have h2 := pm_own X hp t (fun b _ hbe => by have e : b = bx := hbe; subst e; exact ⟨hs, by omega⟩)
 have hh : u.heap[bx]? = some _ := x
 have rr2 : RowP u (fun b => S b ∧ b ≠ bx) (some ad) (intsV P.nw) := fun j v hj => by
  obtain ⟨ad2, e1, e2, e3, e4⟩ := rr j v hj
  injection e1 with e1; subst e1
  exact ⟨_, rfl, ⟨e2, by omega⟩, e3, e4⟩
 have rw2 := (rr2.turn t fun b hq z => hq.2 z).wide (T := Plus S u (((((u.setCell ⟨bx, 0, none⟩ (.int .i64 1)).setCell ⟨bx, 1, none⟩ (.int .i64 no)).setCell ⟨bx, 2, none⟩ (.int .i64 (P.x.ep + 1))).setCell ⟨bx, 3, none⟩ (.int .i64 0)).setCell ⟨bx, 4, none⟩ (.slice A3 1 c3))) fun b hb => Or.inl hb.1
 refine ⟨h2, ?_, (rq.turn t fun b hq z => hq z).row, row_cell rw2 hv, (h2.base.cell (p := bd.add k) (by rw [blk_add]; exact hbb)).trans hsw, rw2⟩
 show _ = _
 simp [World.setCell, Array.getElem?_modify, hh]
set_option maxRecDepth 100000 in
set_option maxHeartbeats 51200000 in
theorem numbers_any {M : Mem} (X : Specs M) (W : World) (A B : Option Addr) (cx cy : Nat) (xs : List PA) (ls : List ByteArray) (hA : Acts W A xs) (hB : Row W W.heap.size B (strs ls)) (hx : xs.length ≤ maxLen) (hy : ls.length ≤ maxLen) :
  Calls Tryz.prog 7 #[.slice A xs.length cx, .slice B ls.length cy] W (Law W) := by
 have HXS := Lib.hid hA
 have HYS := Lib.hid hB
 clear hA hB
 unfold maxLen at hx hy
 unfold Law
 have hcall := X.fresh W 300 (by omega) (by omega)
 go_enter Tryz.func7, Tryz.ntmps7
 go_wp2_with fail
 (with_reducible refine hcall.mono ?_)
 clear hcall
 rintro e w1 ⟨p, d, F, rfl, hm, hF, hb⟩
 have h1 : PM M W w1 p d (freshP 300) 1000000 (fun b => b < W.heap.size) := pm_fresh hm hF hb
 clear hm hF hb
 have hcall := awake_any X w1
 unfold Law at hcall
 go_wp2_with fail
 (with_reducible refine hcall.mono ?_)
 clear hcall
 rintro e w2 ⟨rfl, b2⟩
 have h2 := h1.below X b2
 clear h1 b2
 by_cases h30 : ls.length ≤ 30
 rotate_left
 ·have h31 : (30 : Int) < (ls.length : Int) := by omega
  have hcall := awake_any X w2
  unfold Law at hcall
  clear h30 hy HYS
  generalize ls.length = nl at *
  go_wp2_with fail
  (with_reducible refine hcall.mono ?_)
  clear hcall
  rintro e w3 ⟨rfl, b3⟩
  have h3 := h2.below X b3
  go_wp2_with fail
  go_ret
  exact ⟨rfl, h3.base⟩
 have h31 : ¬ ((30 : Int) < (ls.length : Int)) := by omega
 have HR0 := Lib.hid (show Run M W w2 w2 p d (fun b => b < W.heap.size) 10 0 (fun P => P.most = 300 ∧ P.pg ≤ 2 + 3 * ((0 : Nat) : Int)) from ⟨_, _, h2, fine_fresh (by omega) (by omega), by omega, by show (1 : Int) ≤ _; omega, ⟨rfl, by show (2 : Int) ≤ _; omega⟩, Turn.refl _ _⟩)
 clear h2
 go_upto_block 0 with fail
 go_cut [7] from 36 to 57 (fun s7 wx => ∃ k : Nat, s7 = .int .i64 k ∧ k ≤ 20 ∧ Run M W w2 wx p d (fun b => b < W.heap.size) 10 k (fun P => P.most = 300 ∧ P.pg ≤ 2 + 3 * (k : Int)))
 case first =>
  go_wp2_with fail
  go_loopw [7] (fun i wr => ∃ kA : Nat, kA ≤ xs.length ∧ kA ≤ 20 ∧ i = .int .i64 kA ∧ Run M W w2 wr p d (fun b => b < W.heap.size) 10 kA (fun P => P.most = 300 ∧ P.pg ≤ 2 + 3 * (kA : Int))) (fun i _ => 20 - (intOf i).toNat)
  case atStart => exact ⟨0, by omega, by omega, rfl, HR0.out⟩
  case round =>
   obtain ⟨kA, hk, hkb, rfl, hrun⟩ := hrel
   by_cases hlt : kA < xs.length ∧ kA < 20
   ·obtain ⟨hl1, hl2⟩ := hlt
    obtain ⟨x, hx⟩ : ∃ x, xs[kA]? = some x := ⟨_, List.getElem?_eq_getElem hl1⟩
    obtain ⟨ab, ao, K, ck, hat⟩ := Acts.at HXS.out hrun.base hx
    have hidx := idx_acts (n := xs.length) (c := cx) hat.hA hl1
    obtain ⟨c0, c1, c2, c3, c4, c5, c6⟩ : _ ∧ _ ∧ _ ∧ _ ∧ _ ∧ _ ∧ _ := ⟨hat.c0, hat.c1, hat.c2, hat.c3, hat.c4, hat.c5, hat.c6⟩
    have hcall := few_any wr x K ck hat.row hat.ok.few
    have HAT := Lib.hid hat
    have HRUN := Lib.hid hrun
    clear hat hrun hx
    by_cases hfew : x.cells.length ≤ 130 ∧ ∀ q ∈ x.cells, q.size ≤ 300
    rotate_left
    ·rw [decide_eq_false hfew] at hcall
     clear hfew
     go_wp2_with fail
     (with_reducible refine hcall.mono ?_)
     clear hcall c0 c1 c2 c3 c4 c5 c6
     rintro e wf ⟨rfl, bf⟩
     go_wp2_with fail
     go_roundw
     case rel => exact ⟨kA + 1, by omega, by omega, by go_num, HRUN.out.skip X bf (fun P h => ⟨h.1, by have a : P.pg ≤ 2 + 3 * (kA : Int) := h.2; show P.pg ≤ 2 + 3 * ((kA + 1 : Nat) : Int); omega⟩)⟩
     case measure => simp [intOf]; omega
    rw [decide_eq_true hfew] at hcall
    have HFEW := Lib.hid hfew
    clear hfew
    go_wp2_with fail
    (with_reducible refine hcall.mono ?_)
    clear hcall c0 c1 c2 c3 c4 c5 c6
    rintro e wf ⟨rfl, bf⟩
    have hat := HAT.out.below bf
    obtain ⟨c0, c1, c2, c3, c4, c5, c6⟩ : _ ∧ _ ∧ _ ∧ _ ∧ _ ∧ _ ∧ _ := ⟨hat.c0, hat.c1, hat.c2, hat.c3, hat.c4, hat.c5, hat.c6⟩
    obtain ⟨P, m, hpm, hfn, hm, hep, hR, htn⟩ := HRUN.out
    have hcall := do_any X (hpm.below X bf) hfn x hat.ok K ck HFEW.out hat.row
    have HS := Lib.hid (And.intro hfn (And.intro hm (And.intro hep (And.intro hR (htn.step (Turn.ofBelow bf))))))
    clear hat hpm hfn hm hep hR htn HRUN HAT bf
    go_wp2_with fail
    (with_reducible refine hcall.mono ?_)
    clear hcall c0 c1 c2 c3 c4 c5 c6
    rintro e wg ⟨rfl, hpm, htn⟩
    have HN := Lib.hid (show Run M W w2 wg p d (fun b => b < W.heap.size) 10 (kA + 1) (fun P => P.most = 300 ∧ P.pg ≤ 2 + 3 * ((kA + 1 : Nat) : Int)) from run_do hpm htn HS.out.2.2.2.2 HS.out.1 HS.out.2.1 HS.out.2.2.1 (by omega) (by omega) (⟨by rw [most_act HS.out.1.inv]; exact HS.out.2.2.2.1.1, by have a : P.pg ≤ 2 + 3 * (kA : Int) := HS.out.2.2.2.1.2; have b := pg_act HS.out.1.inv x (by omega); show (act P x).1.pg ≤ 2 + 3 * ((kA + 1 : Nat) : Int); omega⟩))
    go_wp2_with fail
    go_roundw
    case rel => exact ⟨kA + 1, by omega, by omega, by go_num, HN.out⟩
    case measure => simp [intOf]; omega
   have hex : (xs.length ≤ kA) ∨ (kA < xs.length ∧ 20 ≤ kA) := by omega
   rcases hex with hex | ⟨hex, hex2⟩
   ·have HRUN := Lib.hid hrun
    clear hrun HR0
    go_wp2_with fail
    go_meet
    exact ⟨_, rfl, by omega, HRUN.out⟩
   ·have HRUN := Lib.hid hrun
    clear hrun HR0
    go_wp2_with fail
    go_meet
    exact ⟨_, rfl, by omega, HRUN.out⟩
 case rest =>
  obtain ⟨kA, rfl, hkb, hrun⟩ := hcut
  clear HR0
  have HRUN := Lib.hid hrun
  clear hrun
  go_upto_region 9 with fail
  obtain ⟨Pa, ma, hpm, hfn, hm, hep, hR, _⟩ := HRUN.out
  have hcall := pm_abort X hpm hfn
  have hf0 := fine_abort hfn (by omega)
  have HF0 := Lib.hid (show Fine Pa.abort (ma + 1000000) ∧ ma + 1000000 ≤ 1000000 * 200 ∧ Pa.abort.x.ep ≤ 1000 ∧ Pa.abort.nw = [] ∧ Pa.abort.pg ≤ 62 ∧ Pa.abort.most = 300 from ⟨hf0, by omega, by show Pa.x.ep ≤ _; omega, rfl, by have h1 : Pa.pg ≤ 2 + 3 * (kA : Int) := hR.2; have h2 := hfn.inv.xg; show Pa.x.pages ≤ 62; omega, hR.1⟩)
  clear HRUN hpm hfn hm hep hf0 hR
  go_wp2_with fail
  (with_reducible refine hcall.mono ?_)
  clear hcall
  rintro e wa ⟨rfl, ha, _⟩
  generalize Pa.abort = P0 at ha HF0
  generalize ma + 1000000 = ma at ha HF0
  have hmm := @run_makeMap Tryz.prog
  obtain ⟨wb, hwb⟩ : ∃ v, v = wa.alloc (.map #[] 0) := ⟨_, rfl⟩
  have bb : Below wa.heap.size wa wb := by rw [hwb]; exact al' _ _
  have ob : OM wb wa.heap.size 0 (.map []) := by rw [hwb]; exact World.ownsMap_made _ _ _ _
  have hb := ha.more X bb
  have hmbW : W.heap.size ≤ wa.heap.size := ha.base.size
  have hsm : Plus (fun b => b < W.heap.size) wa wb wa.heap.size := Or.inr ⟨Nat.le_refl _, ob.lt⟩
  obtain ⟨wc, hwc⟩ : ∃ v, v = wb.alloc (.cells #[] 3) := ⟨_, rfl⟩
  have bc : Below wb.heap.size wb wc := by rw [hwc]; exact al' _ _
  have oc : Own wc wb.heap.size 3 (some ⟨wb.heap.size, 0, none⟩) 0 (intsV []) := by rw [hwc]; exact Own.empty _ _ (Nat.le_refl _)
  have hc := hb.more X bc
  have omc : OM wc wa.heap.size 0 (.map []) := by rw [hwc]; exact ob.alloc _
  have hbs : wb.heap.size = wa.heap.size + 1 := by rw [hwb]; simp
  have HWB := Lib.hid hwb
  have HWC := Lib.hid hwc
  have hbW : W.heap.size ≤ wb.heap.size := Nat.le_trans hmbW bb.size
  have hN0 : Nm M W p d wa.heap.size wb.heap.size ls 0 P0 ma (Plus (Plus (fun b => b < W.heap.size) wa wb) wb wc) (some ⟨wb.heap.size, 0, none⟩) 0 (.map []) wc := by
   obtain ⟨a1, a2, a3, a4, a5, a6⟩ := HF0.out
   refine ⟨hc, omc, by rw [a4]; exact cnt_nil, by rw [a4]; exact oc, fun b hb => ?_, ⟨Or.inl hsm, hmbW⟩, ⟨a1.inv, by rw [a4]; rfl, fun i hi => by rw [a4] at hi; cases hi⟩, a1, by omega, by omega, a6, a3, by simp⟩
   rw [a4] at hb
   injection hb with hb
   subst hb
   exact ⟨Or.inr ⟨Nat.le_refl _, by rw [hwc]; simp⟩, hbW⟩
  rw [hbs] at hN0
  have hz : P0.nw.length = 0 := by rw [HF0.out.2.2.2.1]; rfl
  have HN0 := Lib.hid hN0
  have HZ := Lib.hid hz
  clear hwb hwc ha hb bb ob bc oc hc omc hsm hN0 hz hbW
  generalize hmb : wa.heap.size = mb at HN0 hmbW
  go_upto_region 12 with fail
  try rw [← HWB.out]
  try rw [← HWC.out]
  try rw [hbs]
  try rw [hmb]
  clear hmb hbs HWB HWC
  go_wp2_with fail
  go_loopw [9, 10] (fun v i wr => ∃ (k : Nat) (P : PS) (m : Int) (S : Blks) (A : Option Addr) (c : Nat) (D : D1), k ≤ ls.length ∧ i = .int .i64 k ∧ v = .slice A P.nw.length c ∧ Nm M W p d mb (mb + 1) ls k P m S A c D wr) (fun _ i _ => ls.length - (intOf i).toNat)
  case atStart => exact ⟨0, P0, ma, _, _, 0, _, by omega, rfl, by rw [HZ.out], HN0.out⟩
  case round =>
   clear HN0 HF0 HZ
   obtain ⟨kB, P, m, S, AN, c, D, hk, rfl, rfl, hN⟩ := hrel
   by_cases hlt : kB < ls.length
   rotate_left
   ·have hn : ¬ ((kB : Int) < (ls.length : Int)) := by omega
    have hmk := hN.made
    have hsz := hN.sz
    rw [List.take_of_length_le (by omega)] at hmk hsz
    have HMD := Lib.hid (And.intro hmk (And.intro hN.ep (And.intro hsz (show P.nw.length ≤ 30 from by rw [hmk.len]; exact h30))))
    have hrw : RowP wr (fun b => S b) AN (intsV P.nw) := own_rows hN.own fun b hb => (hN.so b hb).1
    have HR3 := Lib.hid (And.intro hN.pm (And.intro hN.fine (And.intro (show m ≤ 1000000 * 400 + 1000 * ((0 : Nat) : Int) by have := hN.mm; omega) hrw)))
    clear hN hmk hrw hlt hsz
    go_wp2_with fail
    go_loopw [13] (fun i wr => ∃ (k : Nat) (m : Int) (S : Blks), k ≤ P.nw.length ∧ i = .int .i64 k ∧ PM M W wr p d P m S ∧ Fine P m ∧ m ≤ 1000000 * 400 + 1000 * (k : Int) ∧ RowP wr S AN (intsV P.nw)) (fun i _ => P.nw.length - (intOf i).toNat)
    case atStart => exact ⟨0, m, S, by omega, rfl, HR3.out.1, HR3.out.2.1, HR3.out.2.2.1, HR3.out.2.2.2⟩
    case round =>
     clear HR3 hn hk
     obtain ⟨k, m, S, hk, rfl, hpm, hfn, hm, hrw⟩ := hrel
     by_cases hlt : k < P.nw.length
     rotate_left
     ·have hn : ¬ ((k : Int) < (P.nw.length : Int)) := by omega
      go_wp2_with fail
      go_ret
      exact ⟨rfl, hpm.base⟩
     have hltI : (k : Int) < (P.nw.length : Int) := by omega
     have hls : k < ls.length := by have := HMD.out.1.len; omega
     obtain ⟨ad, hA, _, hc⟩ := PagerSame.intsV_get hrw.row k hlt
     subst hA
     have HV := Lib.hid (show (intsV P.nw)[k]? = some (.int .i64 P.nw[k]) by simp [intsV, hlt])
     obtain ⟨bd, hB, hbb, hsc⟩ := strs_get HYS.out k hls
     subst hB
     have HBB := Lib.hid hbb
     clear hbb
     have HAD := Lib.hid (show ad.block < wr.heap.size from by
      obtain ⟨ad2, e1, _, e3, _⟩ := hrw k _ (show (intsV P.nw)[k]? = some (.int .i64 P.nw[k]) by simp [intsV, hlt])
      have e9 := Option.some.inj e1
      rw [e9]
      exact e3)
     have hrd := HMD.out.1.read (by have := HMD.out.2.1; omega) HMD.out.2.2.1 hlt
     have hnr := HMD.out.1.inv.nr _ (List.getElem_mem hlt)
     rw [getD_of hls] at hrd
     obtain ⟨s, hse⟩ : ∃ s, ls[k] = s := ⟨_, rfl⟩
     rw [hse] at hrd hsc
     have HNO := Lib.hid (show In P.nw[k] by unfold In; have a := HMD.out.1.inv.len; have b := HMD.out.1.inv.most; have c := HMD.out.1.inv.m2; omega)
     clear hnr hse
     generalize P.nw[k] = no at *
     have HRD := Lib.hid hrd
     have HSW := Lib.hid hsc
     have HFM := Lib.hid (And.intro hfn hm)
     clear hrd hsc hc hfn hm
     go_upto_region 25 with fail
     have h0 := hpm.below X (w' := wr.drew) (Below.refl _ _).drew
     have r0 := hrw.below (w' := wr.drew) (Below.refl _ _).drew
     clear hpm hrw
     go_cut [14, 15] (fun s14 s15 wx => ∃ (bx : Nat) (A3 : Option Addr) (c3 : Nat) (Sq : Blks), s14 = .pointer (some ⟨bx, 0, none⟩) ∧ s15 = .int .i64 0 ∧ JN M W p d P (m + 1000) Sq bx no s A3 c3 ad bd c k wx)
     case first =>
      refine wp_region_any (by kernel_rfl) ?_
      change wpAny _ _ _ _ _ _ _ (World.drew _)
      have HUZ := Lib.hid (show wr.heap.size ≤ (World.drew wr).heap.size from ((Below.refl wr.heap.size wr).drew).size)
      obtain ⟨u0, hu0⟩ : ∃ v, v = World.drew wr := ⟨_, rfl⟩
      rw [← hu0] at h0 r0 HUZ
      rw [← hu0]
      clear hu0
      have hp := h0
      have rr := r0
      have HWZ := Lib.hid (show W.heap.size ≤ u0.heap.size from h0.base.size)
      refine Reg.take_at (i := 0) (d := 116) (v := ?_) rfl rfl (by kernel_rfl) (by kernel_rfl) (by kernel_rfl) (fun _ _ _ h => h) (Or.inl ⟨by rfl, ?_⟩) ?_
      rotate_left 1
      ·intro w; go_simp <;> with_reducible rfl
      simp only [Act.put, List.setIfInBounds_toArray, List.set_cons_zero, List.set_cons_succ]
      refine Reg.take_at (i := 1) (d := 117) (v := ?_) rfl rfl (by kernel_rfl) (by kernel_rfl) (by kernel_rfl) (fun _ _ _ h => h) (Or.inl ⟨by rfl, ?_⟩) ?_
      rotate_left 1
      ·intro w; go_simp <;> with_reducible rfl
      simp only [Act.put, List.setIfInBounds_toArray, List.set_cons_zero, List.set_cons_succ]
      refine Reg.take_at (i := 2) (d := 118) (v := ?_) rfl rfl (by kernel_rfl) (by kernel_rfl) (by kernel_rfl) (fun _ _ _ h => h) (Or.inl ⟨by rfl, ?_⟩) ?_
      rotate_left 1
      ·intro w; go_simp <;> with_reducible rfl
      simp only [Act.put, List.setIfInBounds_toArray, List.set_cons_zero, List.set_cons_succ]
      refine Reg.take_at (i := 3) (d := 119) (v := ?_) rfl rfl (by kernel_rfl) (by kernel_rfl) (by kernel_rfl) (fun _ _ _ h => h) (Or.inl ⟨by rfl, ?_⟩) ?_
      rotate_left 1
      ·intro w; go_simp <;> with_reducible rfl
      simp only [Act.put, List.setIfInBounds_toArray, List.set_cons_zero, List.set_cons_succ]
      refine Reg.take_at (i := 4) (d := 120) (v := ?_) rfl rfl (by kernel_rfl) (by kernel_rfl) (by kernel_rfl) (fun _ _ _ h => h) (Or.inl ⟨by rfl, ?_⟩) ?_
      rotate_left 1
      ·intro w; go_simp <;> with_reducible rfl
      simp only [Act.put, List.setIfInBounds_toArray, List.set_cons_zero, List.set_cons_succ]
      refine Reg.take_at (i := 5) (d := 121) (v := ?_) rfl rfl (by kernel_rfl) (by kernel_rfl) (by kernel_rfl) (fun _ _ _ h => h) (Or.inl ⟨by rfl, ?_⟩) ?_
      rotate_left 1
      ·intro w; go_simp <;> with_reducible rfl
      simp only [Act.put, List.setIfInBounds_toArray, List.set_cons_zero, List.set_cons_succ]
      refine wpAny_ready (rs := [6, 11]) (by decide +kernel) (by simp) ?_
      refine AllReady.cons rfl (fun KK hK => ?_) ?_
      ·have hcell := row_cell rr HV.out
       go_simp
       refine hK _ _ ?_
       clear hK KK hcell
       refine wpAny_ready (rs := [7, 11]) (by decide +kernel) (by simp) ?_
       refine AllReady.cons rfl (fun KK hK => ?_) ?_
       ·go_simp
        have hh : Calls Tryz.prog 25 #[.pointer (some ⟨p, 0, none⟩), .int .i64 no] u0 fun e w' => ∃ N : Blks, PM M W w' p d P (m + 1000) (fun b => S b ∨ N b) ∧ Turn (Not S) u0 w' ∧ (∀ b, N b → u0.heap.size ≤ b) ∧ ∃ A c, e = .returned (.tuple #[.agg #[.int .i64 1, .int .i64 no, .int .i64 (P.x.ep + 1), .int .i64 0, .slice A 1 c], .int .i64 0]) ∧ RowP w' N A (strs [s]) := pm_read2 X hp HFM.out.1 no HNO.out HRD.out
        (with_reducible refine hh.mono ?_)
        clear hh hp
        rintro e u1 ⟨N, hp, tq, hN, A3, c3, rfl, rq⟩
        have rq := rq.wide (T := fun _ => True) fun _ _ => trivial
        have hus := tq.size
        replace rr := (rr.turn tq fun _ q z => z q).wide (T := fun b => S b ∨ N b) fun b hb => Or.inl hb
        clear tq hN
        go_simp
        refine hK _ _ ?_
        clear hK KK
        refine Reg.take_at (i := 8) (d := 115) (v := ?_) rfl rfl (by kernel_rfl) (by kernel_rfl) (by kernel_rfl) (fun _ _ _ h => h) (Or.inl ⟨by rfl, ?_⟩) ?_
        rotate_left 1
        ·intro w; go_simp <;> with_reducible rfl
        simp only [Act.put, List.setIfInBounds_toArray, List.set_cons_zero, List.set_cons_succ]
        refine Reg.take_at (i := 9) (d := 124) (v := ?_) rfl rfl (by kernel_rfl) (by kernel_rfl) (by kernel_rfl) (fun _ _ _ h => h) (Or.inl ⟨by rfl, ?_⟩) ?_
        rotate_left 1
        ·intro w; go_simp <;> with_reducible rfl
        simp only [Act.put, List.setIfInBounds_toArray, List.set_cons_zero, List.set_cons_succ]
        refine Reg.take_at (i := 10) (d := 125) (v := ?_) rfl rfl (by kernel_rfl) (by kernel_rfl) (by kernel_rfl) (fun _ _ _ h => h) (Or.inl ⟨by rfl, ?_⟩) ?_
        rotate_left 1
        ·intro w; go_simp <;> with_reducible rfl
        simp only [Act.put, List.setIfInBounds_toArray, List.set_cons_zero, List.set_cons_succ]
        refine wpAny_ready (rs := [11]) (by decide +kernel) (by simp) ?_
        refine AllReady.cons rfl (fun KK hK => ?_) AllReady.nil
        go_simp
        refine hK _ _ ?_
        clear hK KK
        obtain ⟨u2, hu⟩ : ∃ v, v = u1.alloc (.cells #[.int .i64 0, .int .i64 0, .int .i64 0, .int .i64 0, .slice none 0 0] 69) := ⟨_, rfl⟩
        rw [← hu]
        obtain ⟨bx, hbx⟩ : ∃ v, v = u1.heap.size := ⟨_, rfl⟩
        rw [← hbx]
        have bb : Below u1.heap.size u1 u2 := by rw [hu]; exact al' _ _
        have x : At u2 bx 69 #[.int .i64 0, .int .i64 0, .int .i64 0, .int .i64 0, .slice none 0 0] := by rw [hu, hbx]; exact heap_alloc_new _ _
        have hbz : u0.heap.size ≤ bx := by omega
        have hs : Plus (fun b => S b ∨ N b) u1 u2 bx := Or.inr ⟨Nat.le_of_eq hbx.symm, x.lt⟩
        replace rq := (row_nx rq hbx).below bb
        replace hp := hp.more X bb
        replace rr := (rr.below bb).wide (T := Plus (fun b => S b ∨ N b) u1 u2) fun b hb => Or.inl hb
        clear hu hbx bb
        refine wpAny_ready (rs := [12]) (by decide +kernel) (by simp) ?_
        refine AllReady.cons rfl (fun KK hK => ?_) AllReady.nil
        obtain ⟨d0, d1, d2, d3, d4⟩ := five_at x
        have q0 := x.frozen 0
        have q1 := x.frozen 1
        have q2 := x.frozen 2
        have q3 := x.frozen 3
        have q4 := x.frozen 4
        go_simp
        refine hK _ _ ?_
        clear hK KK d0 d1 d2 d3 d4 q0 q1 q2 q3 q4
        refine Reg.take_at (i := 13) (d := 15) (v := ?_) rfl rfl (by kernel_rfl) (by kernel_rfl) (by kernel_rfl) (fun _ _ _ h => h) (Or.inl ⟨by rfl, ?_⟩) ?_
        rotate_left 1
        ·intro w; go_simp <;> with_reducible rfl
        simp only [Act.put, List.setIfInBounds_toArray, List.set_cons_zero, List.set_cons_succ]
        refine wpAny_done (by kernel_rfl) ?_ _
        have hd := jn_done (c := c) (c3 := c3) X hp x hs hbz (Nat.lt_of_lt_of_le HAD.out HUZ.out) rr rq HV.out HBB.out HSW.out HWZ.out
        clear hp x hs rr rq h0 r0
        go_wp2_with fail
        go_meet
        exact ⟨_, _, _, _, rfl, rfl, hd⟩
       refine AllReady.cons rfl (fun KK hK => ?_) AllReady.nil
       go_simp
       refine hK _ _ ?_
       clear hK KK
       obtain ⟨u1, hu⟩ : ∃ v, v = u0.alloc (.cells #[.int .i64 0, .int .i64 0, .int .i64 0, .int .i64 0, .slice none 0 0] 69) := ⟨_, rfl⟩
       rw [← hu]
       obtain ⟨bx, hbx⟩ : ∃ v, v = u0.heap.size := ⟨_, rfl⟩
       rw [← hbx]
       have bb : Below u0.heap.size u0 u1 := by rw [hu]; exact al' _ _
       have x : At u1 bx 69 #[.int .i64 0, .int .i64 0, .int .i64 0, .int .i64 0, .slice none 0 0] := by rw [hu, hbx]; exact heap_alloc_new _ _
       have hbz : u0.heap.size ≤ bx := by omega
       have hs : Plus S u0 u1 bx := Or.inr ⟨Nat.le_of_eq hbx.symm, x.lt⟩
       replace hp := hp.more X bb
       replace rr := (rr.below bb).wide (T := Plus S u0 u1) fun b hb => Or.inl hb
       clear hu hbx bb
       refine wpAny_ready (rs := [7]) (by decide +kernel) (by simp) ?_
       refine AllReady.cons rfl (fun KK hK => ?_) AllReady.nil
       go_simp
       have hh : Calls Tryz.prog 25 #[.pointer (some ⟨p, 0, none⟩), .int .i64 no] u1 fun e w' => ∃ N : Blks, PM M W w' p d P (m + 1000) (fun b => (Plus S u0 u1) b ∨ N b) ∧ Turn (Not (Plus S u0 u1)) u1 w' ∧ (∀ b, N b → u1.heap.size ≤ b) ∧ ∃ A c, e = .returned (.tuple #[.agg #[.int .i64 1, .int .i64 no, .int .i64 (P.x.ep + 1), .int .i64 0, .slice A 1 c], .int .i64 0]) ∧ RowP w' N A (strs [s]) := pm_read2 X hp HFM.out.1 no HNO.out HRD.out
       (with_reducible refine hh.mono ?_)
       clear hh hp
       rintro e u2 ⟨N, hp, tq, hN, A3, c3, rfl, rq⟩
       have hxl := x.lt
       have rq := rq.wide (T := fun b => b ≠ bx) fun b hb => by have := hN b hb; omega
       replace x := att x tq hs
       have hs := Or.inl (b := N bx) hs
       clear hxl
       replace rr := (rr.turn tq fun _ q z => z q).wide (T := fun b => (Plus S u0 u1) b ∨ N b) fun b hb => Or.inl hb
       clear tq hN
       go_simp
       refine hK _ _ ?_
       clear hK KK
       refine Reg.take_at (i := 8) (d := 115) (v := ?_) rfl rfl (by kernel_rfl) (by kernel_rfl) (by kernel_rfl) (fun _ _ _ h => h) (Or.inl ⟨by rfl, ?_⟩) ?_
       rotate_left 1
       ·intro w; go_simp <;> with_reducible rfl
       simp only [Act.put, List.setIfInBounds_toArray, List.set_cons_zero, List.set_cons_succ]
       refine Reg.take_at (i := 9) (d := 124) (v := ?_) rfl rfl (by kernel_rfl) (by kernel_rfl) (by kernel_rfl) (fun _ _ _ h => h) (Or.inl ⟨by rfl, ?_⟩) ?_
       rotate_left 1
       ·intro w; go_simp <;> with_reducible rfl
       simp only [Act.put, List.setIfInBounds_toArray, List.set_cons_zero, List.set_cons_succ]
       refine Reg.take_at (i := 10) (d := 125) (v := ?_) rfl rfl (by kernel_rfl) (by kernel_rfl) (by kernel_rfl) (fun _ _ _ h => h) (Or.inl ⟨by rfl, ?_⟩) ?_
       rotate_left 1
       ·intro w; go_simp <;> with_reducible rfl
       simp only [Act.put, List.setIfInBounds_toArray, List.set_cons_zero, List.set_cons_succ]
       refine wpAny_ready (rs := [12]) (by decide +kernel) (by simp) ?_
       refine AllReady.cons rfl (fun KK hK => ?_) AllReady.nil
       obtain ⟨d0, d1, d2, d3, d4⟩ := five_at x
       have q0 := x.frozen 0
       have q1 := x.frozen 1
       have q2 := x.frozen 2
       have q3 := x.frozen 3
       have q4 := x.frozen 4
       go_simp
       refine hK _ _ ?_
       clear hK KK d0 d1 d2 d3 d4 q0 q1 q2 q3 q4
       refine Reg.take_at (i := 13) (d := 15) (v := ?_) rfl rfl (by kernel_rfl) (by kernel_rfl) (by kernel_rfl) (fun _ _ _ h => h) (Or.inl ⟨by rfl, ?_⟩) ?_
       rotate_left 1
       ·intro w; go_simp <;> with_reducible rfl
       simp only [Act.put, List.setIfInBounds_toArray, List.set_cons_zero, List.set_cons_succ]
       refine wpAny_done (by kernel_rfl) ?_ _
       have hd := jn_done (c := c) (c3 := c3) X hp x hs hbz (Nat.lt_of_lt_of_le HAD.out HUZ.out) rr rq HV.out HBB.out HSW.out HWZ.out
       clear hp x hs rr rq h0 r0
       go_wp2_with fail
       go_meet
       exact ⟨_, _, _, _, rfl, rfl, hd⟩
      refine AllReady.cons rfl (fun KK hK => ?_) AllReady.nil
      go_simp
      refine hK _ _ ?_
      clear hK KK
      obtain ⟨u1, hu⟩ : ∃ v, v = u0.alloc (.cells #[.int .i64 0, .int .i64 0, .int .i64 0, .int .i64 0, .slice none 0 0] 69) := ⟨_, rfl⟩
      rw [← hu]
      obtain ⟨bx, hbx⟩ : ∃ v, v = u0.heap.size := ⟨_, rfl⟩
      rw [← hbx]
      have bb : Below u0.heap.size u0 u1 := by rw [hu]; exact al' _ _
      have x : At u1 bx 69 #[.int .i64 0, .int .i64 0, .int .i64 0, .int .i64 0, .slice none 0 0] := by rw [hu, hbx]; exact heap_alloc_new _ _
      have hbz : u0.heap.size ≤ bx := by omega
      have hs : Plus S u0 u1 bx := Or.inr ⟨Nat.le_of_eq hbx.symm, x.lt⟩
      replace hp := hp.more X bb
      replace rr := (rr.below bb).wide (T := Plus S u0 u1) fun b hb => Or.inl hb
      clear hu hbx bb
      refine wpAny_ready (rs := [6]) (by decide +kernel) (by simp) ?_
      refine AllReady.cons rfl (fun KK hK => ?_) AllReady.nil
      have hcell := row_cell rr HV.out
      go_simp
      refine hK _ _ ?_
      clear hK KK hcell
      refine wpAny_ready (rs := [7]) (by decide +kernel) (by simp) ?_
      refine AllReady.cons rfl (fun KK hK => ?_) AllReady.nil
      go_simp
      have hh : Calls Tryz.prog 25 #[.pointer (some ⟨p, 0, none⟩), .int .i64 no] u1 fun e w' => ∃ N : Blks, PM M W w' p d P (m + 1000) (fun b => (Plus S u0 u1) b ∨ N b) ∧ Turn (Not (Plus S u0 u1)) u1 w' ∧ (∀ b, N b → u1.heap.size ≤ b) ∧ ∃ A c, e = .returned (.tuple #[.agg #[.int .i64 1, .int .i64 no, .int .i64 (P.x.ep + 1), .int .i64 0, .slice A 1 c], .int .i64 0]) ∧ RowP w' N A (strs [s]) := pm_read2 X hp HFM.out.1 no HNO.out HRD.out
      (with_reducible refine hh.mono ?_)
      clear hh hp
      rintro e u2 ⟨N, hp, tq, hN, A3, c3, rfl, rq⟩
      have hxl := x.lt
      have rq := rq.wide (T := fun b => b ≠ bx) fun b hb => by have := hN b hb; omega
      replace x := att x tq hs
      have hs := Or.inl (b := N bx) hs
      clear hxl
      replace rr := (rr.turn tq fun _ q z => z q).wide (T := fun b => (Plus S u0 u1) b ∨ N b) fun b hb => Or.inl hb
      clear tq hN
      go_simp
      refine hK _ _ ?_
      clear hK KK
      refine Reg.take_at (i := 8) (d := 115) (v := ?_) rfl rfl (by kernel_rfl) (by kernel_rfl) (by kernel_rfl) (fun _ _ _ h => h) (Or.inl ⟨by rfl, ?_⟩) ?_
      rotate_left 1
      ·intro w; go_simp <;> with_reducible rfl
      simp only [Act.put, List.setIfInBounds_toArray, List.set_cons_zero, List.set_cons_succ]
      refine Reg.take_at (i := 9) (d := 124) (v := ?_) rfl rfl (by kernel_rfl) (by kernel_rfl) (by kernel_rfl) (fun _ _ _ h => h) (Or.inl ⟨by rfl, ?_⟩) ?_
      rotate_left 1
      ·intro w; go_simp <;> with_reducible rfl
      simp only [Act.put, List.setIfInBounds_toArray, List.set_cons_zero, List.set_cons_succ]
      refine Reg.take_at (i := 10) (d := 125) (v := ?_) rfl rfl (by kernel_rfl) (by kernel_rfl) (by kernel_rfl) (fun _ _ _ h => h) (Or.inl ⟨by rfl, ?_⟩) ?_
      rotate_left 1
      ·intro w; go_simp <;> with_reducible rfl
      simp only [Act.put, List.setIfInBounds_toArray, List.set_cons_zero, List.set_cons_succ]
      refine wpAny_ready (rs := [12]) (by decide +kernel) (by simp) ?_
      refine AllReady.cons rfl (fun KK hK => ?_) AllReady.nil
      obtain ⟨d0, d1, d2, d3, d4⟩ := five_at x
      have q0 := x.frozen 0
      have q1 := x.frozen 1
      have q2 := x.frozen 2
      have q3 := x.frozen 3
      have q4 := x.frozen 4
      go_simp
      refine hK _ _ ?_
      clear hK KK d0 d1 d2 d3 d4 q0 q1 q2 q3 q4
      refine Reg.take_at (i := 13) (d := 15) (v := ?_) rfl rfl (by kernel_rfl) (by kernel_rfl) (by kernel_rfl) (fun _ _ _ h => h) (Or.inl ⟨by rfl, ?_⟩) ?_
      rotate_left 1
      ·intro w; go_simp <;> with_reducible rfl
      simp only [Act.put, List.setIfInBounds_toArray, List.set_cons_zero, List.set_cons_succ]
      refine wpAny_done (by kernel_rfl) ?_ _
      have hd := jn_done (c := c) (c3 := c3) X hp x hs hbz (Nat.lt_of_lt_of_le HAD.out HUZ.out) rr rq HV.out HBB.out HSW.out HWZ.out
      clear hp x hs rr rq h0 r0
      go_wp2_with fail
      go_meet
      exact ⟨_, _, _, _, rfl, rfl, hd⟩
     case rest =>
      obtain ⟨bx, A3, c3, Sq, rfl, rfl, hJ⟩ := hcut
      clear h0 r0
      have HF3 := Lib.hid (And.intro (fine_read HFM.out.1 (by have := HFM.out.2; omega)) (show m + 1000 ≤ 1000000 * 400 + 1000 * ((k + 1 : Nat) : Int) by have := HFM.out.2; omega))
      have HLT := Lib.hid hltI
      have HLS := Lib.hid (show (k : Int) < (ls.length : Int) by omega)
      have HE1 := Lib.hid (show 0 ≤ P.x.ep ∧ P.x.ep ≤ 1000 from ⟨by have := HMD.out.1.inv.ep; omega, HMD.out.2.1⟩)
      generalize m + 1000 = mz at hJ HF3
      go_upto_region 26 with fail
      have hJ0 := hJ.below X (w' := wc.drew) (Below.refl _ _).drew
      clear hJ
      refine wp_region_any (by kernel_rfl) ?_
      change wpAny _ _ _ _ _ _ _ (World.drew _)
      refine Inv.inv_any (fun (i : Nat) (v : Value) (w : World) => match i with | 0 => v = .int .i64 0 | 1 => v = .bool false | 2 => v = .bool false | 3 => v = .agg #[.int .i64 1, .int .i64 no, .int .i64 (P.x.ep + 1), .int .i64 0, .slice A3 1 c3] | 4 => v = .slice (some ad) P.nw.length c | 5 => v = .int .i64 (k : Int) | 6 => v = .pointer (some (ad.add k)) | 7 => v = .int .i64 no | 8 => v = .pointer (some ⟨p, 0, none⟩) | 9 => v = .agg #[.int .i64 P.x.ep, .int .i64 P.x.root, .int .i64 P.x.free, .int .i64 P.x.pages] | 10 => v = .int .i64 P.x.ep | 11 => v = .int .i64 (P.x.ep + 1) | 12 => v = .slice (some bd) ls.length cy | 13 => v = .int .i64 (k : Int) | 14 => v = .pointer (some (bd.add k)) | 15 => v = .string s | 16 => NSt s v w | 17 => NPg no (P.x.ep + 1) s v w | 18 => v = .bool true | 19 => v = .bool false | 20 => v = .bool false | _ => True) (fun w' : World => JN M W p d P mz Sq bx no s A3 c3 ad bd c k w') _ 21 147 rfl rfl rfl (by kernel_rfl) (by kernel_rfl) hJ0 ?_ ?_ ?_ ?_
      ·intro j v w w' h hb
       match j, h with
       | 0, h => exact h
       | 1, h => exact h
       | 2, h => exact h
       | 3, h => exact h
       | 4, h => exact h
       | 5, h => exact h
       | 6, h => exact h
       | 7, h => exact h
       | 8, h => exact h
       | 9, h => exact h
       | 10, h => exact h
       | 11, h => exact h
       | 12, h => exact h
       | 13, h => exact h
       | 14, h => exact h
       | 15, h => exact h
       | 16, h => exact NSt.below h hb
       | 17, h => exact NPg.below h hb
       | 18, h => exact h
       | 19, h => exact h
       | 20, h => exact h
       | (_ + 21), _ => exact trivial
      ·skip
       refine Inv.from_cons _ _ _ _ rfl (fun _ a w hJ hF F K hK => ?_) ?_
       ·have hz : a.tmps.size = 147 := hF.size
        have e15 : a.tmps[15]? = some (.int .i64 0) := Inv2.some_slot (by rw [hz]; exact Nat.le_of_ble_eq_true rfl) (hF.slot 15 (by kernel_rfl))
        clear F hF hz
        have hJ1 := hJ
        obtain ⟨jp, jx, jr, jn, js, jw⟩ := hJ1
        go_simp
        exact hK (.int .i64 0) _ hJ (Below.refl _ _) rfl
       refine Inv.from_cons _ _ _ _ rfl (fun _ a w hJ hF F K hK => ?_) ?_
       ·have hz : a.tmps.size = 147 := hF.size
        have e126 : a.tmps[126]? = some (.int .i64 0) := Inv2.some_slot (by rw [hz]; exact Nat.le_of_ble_eq_true rfl) (F 0 (by kernel_rfl) 126 rfl)
        clear F hF hz
        have hJ1 := hJ
        obtain ⟨jp, jx, jr, jn, js, jw⟩ := hJ1
        go_simp
        exact hK (.bool false) _ hJ (Below.refl _ _) rfl
       refine Inv.from_cons _ _ _ _ rfl (fun _ a w hJ hF F K hK => ?_) ?_
       ·have hz : a.tmps.size = 147 := hF.size
        have e127 : a.tmps[127]? = some (.bool false) := Inv2.some_slot (by rw [hz]; exact Nat.le_of_ble_eq_true rfl) (F 1 (by kernel_rfl) 127 rfl)
        clear F hF hz
        have hJ1 := hJ
        obtain ⟨jp, jx, jr, jn, js, jw⟩ := hJ1
        go_simp
        exact hK (.bool false) _ hJ (Below.refl _ _) rfl
       refine Inv.from_cons _ _ _ _ rfl (fun _ a w hJ hF F K hK => ?_) ?_
       ·have hz : a.tmps.size = 147 := hF.size
        have e14 : a.tmps[14]? = some (.pointer (some ⟨bx, 0, none⟩)) := Inv2.some_slot (by rw [hz]; exact Nat.le_of_ble_eq_true rfl) (hF.slot 14 (by kernel_rfl))
        have e128 : a.tmps[128]? = some (.bool false) := Inv2.some_slot (by rw [hz]; exact Nat.le_of_ble_eq_true rfl) (F 2 (by kernel_rfl) 128 rfl)
        clear F hF hz
        have hJ1 := hJ
        obtain ⟨jp, jx, jr, jn, js, jw⟩ := hJ1
        obtain ⟨d0, d1, d2, d3, d4⟩ := five_at jx
        go_simp
        exact hK (.agg #[.int .i64 1, .int .i64 no, .int .i64 (P.x.ep + 1), .int .i64 0, .slice A3 1 c3]) _ hJ (Below.refl _ _) rfl
       refine Inv.from_cons _ _ _ _ rfl (fun _ a w hJ hF F K hK => ?_) ?_
       ·have hz : a.tmps.size = 147 := hF.size
        have e9 : a.tmps[9]? = some (.slice (some ad) P.nw.length c) := Inv2.some_slot (by rw [hz]; exact Nat.le_of_ble_eq_true rfl) (hF.slot 9 (by kernel_rfl))
        have e128 : a.tmps[128]? = some (.bool false) := Inv2.some_slot (by rw [hz]; exact Nat.le_of_ble_eq_true rfl) (F 2 (by kernel_rfl) 128 rfl)
        clear F hF hz
        have hJ1 := hJ
        obtain ⟨jp, jx, jr, jn, js, jw⟩ := hJ1
        go_simp
        exact hK (.slice (some ad) P.nw.length c) _ hJ (Below.refl _ _) rfl
       refine Inv.from_cons _ _ _ _ rfl (fun _ a w hJ hF F K hK => ?_) ?_
       ·have hz : a.tmps.size = 147 := hF.size
        have e13 : a.tmps[13]? = some (.int .i64 (k : Int)) := Inv2.some_slot (by rw [hz]; exact Nat.le_of_ble_eq_true rfl) (hF.slot 13 (by kernel_rfl))
        have e128 : a.tmps[128]? = some (.bool false) := Inv2.some_slot (by rw [hz]; exact Nat.le_of_ble_eq_true rfl) (F 2 (by kernel_rfl) 128 rfl)
        clear F hF hz
        have hJ1 := hJ
        obtain ⟨jp, jx, jr, jn, js, jw⟩ := hJ1
        go_simp
        exact hK (.int .i64 (k : Int)) _ hJ (Below.refl _ _) rfl
       refine Inv.from_cons _ _ _ _ rfl (fun _ a w hJ hF F K hK => ?_) ?_
       ·have hz : a.tmps.size = 147 := hF.size
        have e128 : a.tmps[128]? = some (.bool false) := Inv2.some_slot (by rw [hz]; exact Nat.le_of_ble_eq_true rfl) (F 2 (by kernel_rfl) 128 rfl)
        have e130 : a.tmps[130]? = some (.slice (some ad) P.nw.length c) := Inv2.some_slot (by rw [hz]; exact Nat.le_of_ble_eq_true rfl) (F 4 (by kernel_rfl) 130 rfl)
        have e131 : a.tmps[131]? = some (.int .i64 (k : Int)) := Inv2.some_slot (by rw [hz]; exact Nat.le_of_ble_eq_true rfl) (F 5 (by kernel_rfl) 131 rfl)
        clear F hF hz
        have hJ1 := hJ
        obtain ⟨jp, jx, jr, jn, js, jw⟩ := hJ1
        have hlt := HLT.out
        go_simp
        exact hK (.pointer (some (ad.add k))) _ hJ (Below.refl _ _) rfl
       refine Inv.from_cons _ _ _ _ rfl (fun _ a w hJ hF F K hK => ?_) ?_
       ·have hz : a.tmps.size = 147 := hF.size
        have e128 : a.tmps[128]? = some (.bool false) := Inv2.some_slot (by rw [hz]; exact Nat.le_of_ble_eq_true rfl) (F 2 (by kernel_rfl) 128 rfl)
        have e132 : a.tmps[132]? = some (.pointer (some (ad.add k))) := Inv2.some_slot (by rw [hz]; exact Nat.le_of_ble_eq_true rfl) (F 6 (by kernel_rfl) 132 rfl)
        clear F hF hz
        have hJ1 := hJ
        obtain ⟨jp, jx, jr, jn, js, jw⟩ := hJ1
        have hc := jn
        go_simp
        exact hK (.int .i64 no) _ hJ (Below.refl _ _) rfl
       refine Inv.from_cons _ _ _ _ rfl (fun _ a w hJ hF F K hK => ?_) ?_
       ·have hz : a.tmps.size = 147 := hF.size
        have e5 : a.tmps[5]? = some (.pointer (some ⟨p, 0, none⟩)) := Inv2.some_slot (by rw [hz]; exact Nat.le_of_ble_eq_true rfl) (hF.slot 5 (by kernel_rfl))
        have e128 : a.tmps[128]? = some (.bool false) := Inv2.some_slot (by rw [hz]; exact Nat.le_of_ble_eq_true rfl) (F 2 (by kernel_rfl) 128 rfl)
        clear F hF hz
        have hJ1 := hJ
        obtain ⟨jp, jx, jr, jn, js, jw⟩ := hJ1
        go_simp
        exact hK (.pointer (some ⟨p, 0, none⟩)) _ hJ (Below.refl _ _) rfl
       refine Inv.from_cons _ _ _ _ rfl (fun _ a w hJ hF F K hK => ?_) ?_
       ·have hz : a.tmps.size = 147 := hF.size
        have e128 : a.tmps[128]? = some (.bool false) := Inv2.some_slot (by rw [hz]; exact Nat.le_of_ble_eq_true rfl) (F 2 (by kernel_rfl) 128 rfl)
        have e134 : a.tmps[134]? = some (.pointer (some ⟨p, 0, none⟩)) := Inv2.some_slot (by rw [hz]; exact Nat.le_of_ble_eq_true rfl) (F 8 (by kernel_rfl) 134 rfl)
        clear F hF hz
        have hJ1 := hJ
        obtain ⟨jp, jx, jr, jn, js, jw⟩ := hJ1
        have hh := pm_super X jp
        go_simp
        (with_reducible refine hh.mono ?_)
        rintro e' w' ⟨rfl, hb⟩
        go_simp
        exact hK _ _ (hJ.below X hb) hb rfl
       refine Inv.from_cons _ _ _ _ rfl (fun _ a w hJ hF F K hK => ?_) ?_
       ·have hz : a.tmps.size = 147 := hF.size
        have e128 : a.tmps[128]? = some (.bool false) := Inv2.some_slot (by rw [hz]; exact Nat.le_of_ble_eq_true rfl) (F 2 (by kernel_rfl) 128 rfl)
        have e135 : a.tmps[135]? = some (.agg #[.int .i64 P.x.ep, .int .i64 P.x.root, .int .i64 P.x.free, .int .i64 P.x.pages]) := Inv2.some_slot (by rw [hz]; exact Nat.le_of_ble_eq_true rfl) (F 9 (by kernel_rfl) 135 rfl)
        clear F hF hz
        have hJ1 := hJ
        obtain ⟨jp, jx, jr, jn, js, jw⟩ := hJ1
        have hfd := fld0 P.x
        go_simp
        exact hK (.int .i64 P.x.ep) _ hJ (Below.refl _ _) rfl
       refine Inv.from_cons _ _ _ _ rfl (fun _ a w hJ hF F K hK => ?_) ?_
       ·have hz : a.tmps.size = 147 := hF.size
        have e128 : a.tmps[128]? = some (.bool false) := Inv2.some_slot (by rw [hz]; exact Nat.le_of_ble_eq_true rfl) (F 2 (by kernel_rfl) 128 rfl)
        have e136 : a.tmps[136]? = some (.int .i64 P.x.ep) := Inv2.some_slot (by rw [hz]; exact Nat.le_of_ble_eq_true rfl) (F 10 (by kernel_rfl) 136 rfl)
        clear F hF hz
        have hJ1 := hJ
        obtain ⟨jp, jx, jr, jn, js, jw⟩ := hJ1
        have hw := IntWalk.i64_in (P.x.ep + 1) (by have := HE1.out; omega)
        go_simp
        exact hK (.int .i64 (P.x.ep + 1)) _ hJ (Below.refl _ _) rfl
       refine Inv.from_cons _ _ _ _ rfl (fun _ a w hJ hF F K hK => ?_) ?_
       ·have hz : a.tmps.size = 147 := hF.size
        have e1 : a.tmps[1]? = some (.slice (some bd) ls.length cy) := Inv2.some_slot (by rw [hz]; exact Nat.le_of_ble_eq_true rfl) (hF.slot 1 (by kernel_rfl))
        have e128 : a.tmps[128]? = some (.bool false) := Inv2.some_slot (by rw [hz]; exact Nat.le_of_ble_eq_true rfl) (F 2 (by kernel_rfl) 128 rfl)
        clear F hF hz
        have hJ1 := hJ
        obtain ⟨jp, jx, jr, jn, js, jw⟩ := hJ1
        go_simp
        exact hK (.slice (some bd) ls.length cy) _ hJ (Below.refl _ _) rfl
       refine Inv.from_cons _ _ _ _ rfl (fun _ a w hJ hF F K hK => ?_) ?_
       ·have hz : a.tmps.size = 147 := hF.size
        have e13 : a.tmps[13]? = some (.int .i64 (k : Int)) := Inv2.some_slot (by rw [hz]; exact Nat.le_of_ble_eq_true rfl) (hF.slot 13 (by kernel_rfl))
        have e128 : a.tmps[128]? = some (.bool false) := Inv2.some_slot (by rw [hz]; exact Nat.le_of_ble_eq_true rfl) (F 2 (by kernel_rfl) 128 rfl)
        clear F hF hz
        have hJ1 := hJ
        obtain ⟨jp, jx, jr, jn, js, jw⟩ := hJ1
        go_simp
        exact hK (.int .i64 (k : Int)) _ hJ (Below.refl _ _) rfl
       refine Inv.from_cons _ _ _ _ rfl (fun _ a w hJ hF F K hK => ?_) ?_
       ·have hz : a.tmps.size = 147 := hF.size
        have e128 : a.tmps[128]? = some (.bool false) := Inv2.some_slot (by rw [hz]; exact Nat.le_of_ble_eq_true rfl) (F 2 (by kernel_rfl) 128 rfl)
        have e138 : a.tmps[138]? = some (.slice (some bd) ls.length cy) := Inv2.some_slot (by rw [hz]; exact Nat.le_of_ble_eq_true rfl) (F 12 (by kernel_rfl) 138 rfl)
        have e139 : a.tmps[139]? = some (.int .i64 (k : Int)) := Inv2.some_slot (by rw [hz]; exact Nat.le_of_ble_eq_true rfl) (F 13 (by kernel_rfl) 139 rfl)
        clear F hF hz
        have hJ1 := hJ
        obtain ⟨jp, jx, jr, jn, js, jw⟩ := hJ1
        have hlt := HLS.out
        go_simp
        exact hK (.pointer (some (bd.add k))) _ hJ (Below.refl _ _) rfl
       refine Inv.from_cons _ _ _ _ rfl (fun _ a w hJ hF F K hK => ?_) ?_
       ·have hz : a.tmps.size = 147 := hF.size
        have e128 : a.tmps[128]? = some (.bool false) := Inv2.some_slot (by rw [hz]; exact Nat.le_of_ble_eq_true rfl) (F 2 (by kernel_rfl) 128 rfl)
        have e140 : a.tmps[140]? = some (.pointer (some (bd.add k))) := Inv2.some_slot (by rw [hz]; exact Nat.le_of_ble_eq_true rfl) (F 14 (by kernel_rfl) 140 rfl)
        clear F hF hz
        have hJ1 := hJ
        obtain ⟨jp, jx, jr, jn, js, jw⟩ := hJ1
        have hc := js
        go_simp
        exact hK (.string s) _ hJ (Below.refl _ _) rfl
       refine Inv.from_cons _ _ _ _ rfl (fun _ a w hJ hF F K hK => ?_) ?_
       ·have hz : a.tmps.size = 147 := hF.size
        have e128 : a.tmps[128]? = some (.bool false) := Inv2.some_slot (by rw [hz]; exact Nat.le_of_ble_eq_true rfl) (F 2 (by kernel_rfl) 128 rfl)
        have e141 : a.tmps[141]? = some (.string s) := Inv2.some_slot (by rw [hz]; exact Nat.le_of_ble_eq_true rfl) (F 15 (by kernel_rfl) 141 rfl)
        clear F hF hz
        have hJ1 := hJ
        obtain ⟨jp, jx, jr, jn, js, jw⟩ := hJ1
        go_simp
        exact hK _ _ (hJ.below X (al' _ _)) (al' _ _) ⟨_, rfl, heap_alloc_new w _⟩
       refine Inv.from_cons _ _ _ _ rfl (fun _ a w hJ hF F K hK => ?_) ?_
       ·have hz : a.tmps.size = 147 := hF.size
        have e128 : a.tmps[128]? = some (.bool false) := Inv2.some_slot (by rw [hz]; exact Nat.le_of_ble_eq_true rfl) (F 2 (by kernel_rfl) 128 rfl)
        have e133 : a.tmps[133]? = some (.int .i64 no) := Inv2.some_slot (by rw [hz]; exact Nat.le_of_ble_eq_true rfl) (F 7 (by kernel_rfl) 133 rfl)
        have e137 : a.tmps[137]? = some (.int .i64 (P.x.ep + 1)) := Inv2.some_slot (by rw [hz]; exact Nat.le_of_ble_eq_true rfl) (F 11 (by kernel_rfl) 137 rfl)
        obtain ⟨x142, e142, f16⟩ : ∃ xv, a.tmps[142]? = some xv ∧ NSt s xv w := ⟨_, Inv2.some_slot (by rw [hz]; exact Nat.le_of_ble_eq_true rfl) rfl, F 16 (by kernel_rfl) 142 rfl⟩
        clear F hF hz
        have hJ1 := hJ
        obtain ⟨jp, jx, jr, jn, js, jw⟩ := hJ1
        obtain ⟨b, rfl, hb⟩ := f16
        go_simp
        exact hK _ _ hJ (Below.refl _ _) ⟨b, rfl, hb⟩
       refine Inv.from_cons _ _ _ _ rfl (fun _ a w hJ hF F K hK => ?_) ?_
       ·have hz : a.tmps.size = 147 := hF.size
        have e128 : a.tmps[128]? = some (.bool false) := Inv2.some_slot (by rw [hz]; exact Nat.le_of_ble_eq_true rfl) (F 2 (by kernel_rfl) 128 rfl)
        have e129 : a.tmps[129]? = some (.agg #[.int .i64 1, .int .i64 no, .int .i64 (P.x.ep + 1), .int .i64 0, .slice A3 1 c3]) := Inv2.some_slot (by rw [hz]; exact Nat.le_of_ble_eq_true rfl) (F 3 (by kernel_rfl) 129 rfl)
        have e135 : a.tmps[135]? = some (.agg #[.int .i64 P.x.ep, .int .i64 P.x.root, .int .i64 P.x.free, .int .i64 P.x.pages]) := Inv2.some_slot (by rw [hz]; exact Nat.le_of_ble_eq_true rfl) (F 9 (by kernel_rfl) 135 rfl)
        obtain ⟨x143, e143, f17⟩ : ∃ xv, a.tmps[143]? = some xv ∧ NPg no (P.x.ep + 1) s xv w := ⟨_, Inv2.some_slot (by rw [hz]; exact Nat.le_of_ble_eq_true rfl) rfl, F 17 (by kernel_rfl) 143 rfl⟩
        clear F hF hz
        have hJ1 := hJ
        obtain ⟨jp, jx, jr, jn, js, jw⟩ := hJ1
        obtain ⟨b, rfl, hat⟩ := f17
        have hh : Calls Tryz.prog 26 #[.agg #[.int .i64 1, .int .i64 no, .int .i64 (P.x.ep + 1), .int .i64 0, .slice A3 1 c3], .agg #[.int .i64 1, .int .i64 no, .int .i64 (P.x.ep + 1), .int .i64 0, .slice (some ⟨b, 0, none⟩) 1 1]] w fun e w' => e = .returned (.bool (PageSame.same (P.of 1 0 [s] no) (P.of 1 0 [s] no))) ∧ Below w.heap.size w w' :=
         PageRef.rsame_any w (P.of 1 0 [s] no) (P.of 1 0 [s] no) A3 (some ⟨b, 0, none⟩) c3 1 jr (one_row hat) (by show 1 ≤ maxLen; decide)
        rw [(PageSame.same_iff _ _).2 rfl] at hh
        go_simp
        (with_reducible refine hh.mono ?_)
        rintro e' w' ⟨rfl, hb⟩
        go_simp
        exact hK _ _ (hJ.below X hb) hb rfl
       refine Inv.from_cons _ _ _ _ rfl (fun _ a w hJ hF F K hK => ?_) ?_
       ·have hz : a.tmps.size = 147 := hF.size
        have e128 : a.tmps[128]? = some (.bool false) := Inv2.some_slot (by rw [hz]; exact Nat.le_of_ble_eq_true rfl) (F 2 (by kernel_rfl) 128 rfl)
        have e144 : a.tmps[144]? = some (.bool true) := Inv2.some_slot (by rw [hz]; exact Nat.le_of_ble_eq_true rfl) (F 18 (by kernel_rfl) 144 rfl)
        clear F hF hz
        have hJ1 := hJ
        obtain ⟨jp, jx, jr, jn, js, jw⟩ := hJ1
        go_simp
        exact hK (.bool false) _ hJ (Below.refl _ _) rfl
       refine Inv.from_cons _ _ _ _ rfl (fun _ a w hJ hF F K hK => ?_) ?_
       ·have hz : a.tmps.size = 147 := hF.size
        have e128 : a.tmps[128]? = some (.bool false) := Inv2.some_slot (by rw [hz]; exact Nat.le_of_ble_eq_true rfl) (F 2 (by kernel_rfl) 128 rfl)
        have e145 : a.tmps[145]? = some (.bool false) := Inv2.some_slot (by rw [hz]; exact Nat.le_of_ble_eq_true rfl) (F 19 (by kernel_rfl) 145 rfl)
        clear F hF hz
        have hJ1 := hJ
        obtain ⟨jp, jx, jr, jn, js, jw⟩ := hJ1
        go_simp
        exact hK (.bool false) _ hJ (Below.refl _ _) rfl
       exact Inv.from_end _ _ _ _ (by decide +kernel)
      ·intro o ho; exact absurd ho (by simp)
      ·intro _ a w hJ hF F
       obtain ⟨f, hf⟩ : ∃ f : Nat → Value, ∀ i, a.tmps.getD i undef = f i := ⟨_, fun _ => rfl⟩
       have g0 : f 0 = (.slice A xs.length cx) := (hf 0).symm.trans (hF.slot 0 (by kernel_rfl))
       have g1 : f 1 = (.slice (some bd) ls.length cy) := (hf 1).symm.trans (hF.slot 1 (by kernel_rfl))
       have g2 : f 2 = (undef) := (hf 2).symm.trans (hF.slot 2 (by kernel_rfl))
       have g3 : f 3 = (undef) := (hf 3).symm.trans (hF.slot 3 (by kernel_rfl))
       have g5 : f 5 = (.pointer (some ⟨p, 0, none⟩)) := (hf 5).symm.trans (hF.slot 5 (by kernel_rfl))
       have g6 : f 6 = (.pointer (some ⟨d, 0, none⟩)) := (hf 6).symm.trans (hF.slot 6 (by kernel_rfl))
       have g7 : f 7 = (.int .i64 (kA : Int)) := (hf 7).symm.trans (hF.slot 7 (by kernel_rfl))
       have g8 : f 8 = (.map (some mb)) := (hf 8).symm.trans (hF.slot 8 (by kernel_rfl))
       have g9 : f 9 = (.slice (some ad) P.nw.length c) := (hf 9).symm.trans (hF.slot 9 (by kernel_rfl))
       have g10 : f 10 = (.int .i64 (kB : Int)) := (hf 10).symm.trans (hF.slot 10 (by kernel_rfl))
       have g11 : f 11 = (u11) := (hf 11).symm.trans (hF.slot 11 (by kernel_rfl))
       have g12 : f 12 = (u12) := (hf 12).symm.trans (hF.slot 12 (by kernel_rfl))
       have g13 : f 13 = (.int .i64 (k : Int)) := (hf 13).symm.trans (hF.slot 13 (by kernel_rfl))
       have g14 : f 14 = (.pointer (some ⟨bx, 0, none⟩)) := (hf 14).symm.trans (hF.slot 14 (by kernel_rfl))
       have g15 : f 15 = (.int .i64 0) := (hf 15).symm.trans (hF.slot 15 (by kernel_rfl))
       have g16 : f 16 = (.tuple #[.pointer (some ⟨p, 0, none⟩), .pointer (some ⟨d, 0, none⟩)]) := (hf 16).symm.trans (hF.slot 16 (by kernel_rfl))
       have g17 : f 17 = (.tuple #[.pointer (some ⟨p, 0, none⟩), .pointer (some ⟨d, 0, none⟩)]) := (hf 17).symm.trans (hF.slot 17 (by kernel_rfl))
       have g18 : f 18 = (.pointer (some ⟨p, 0, none⟩)) := (hf 18).symm.trans (hF.slot 18 (by kernel_rfl))
       have g19 : f 19 = (.pointer (some ⟨d, 0, none⟩)) := (hf 19).symm.trans (hF.slot 19 (by kernel_rfl))
       have g20 : f 20 = (.bool true) := (hf 20).symm.trans (hF.slot 20 (by kernel_rfl))
       have g21 : f 21 = (.bool false) := (hf 21).symm.trans (hF.slot 21 (by kernel_rfl))
       have g22 : f 22 = (.bool false) := (hf 22).symm.trans (hF.slot 22 (by kernel_rfl))
       have g23 : f 23 = (.pointer (some ⟨p, 0, none⟩)) := (hf 23).symm.trans (hF.slot 23 (by kernel_rfl))
       have g24 : f 24 = (.bool false) := (hf 24).symm.trans (hF.slot 24 (by kernel_rfl))
       have g25 : f 25 = (.bool false) := (hf 25).symm.trans (hF.slot 25 (by kernel_rfl))
       have g26 : f 26 = (.bool false) := (hf 26).symm.trans (hF.slot 26 (by kernel_rfl))
       have g27 : f 27 = (.pointer (some ⟨d, 0, none⟩)) := (hf 27).symm.trans (hF.slot 27 (by kernel_rfl))
       have g28 : f 28 = (.bool false) := (hf 28).symm.trans (hF.slot 28 (by kernel_rfl))
       have g29 : f 29 = (.bool false) := (hf 29).symm.trans (hF.slot 29 (by kernel_rfl))
       have g30 : f 30 = (.bool false) := (hf 30).symm.trans (hF.slot 30 (by kernel_rfl))
       have g31 : f 31 = (.slice (some bd) ls.length cy) := (hf 31).symm.trans (hF.slot 31 (by kernel_rfl))
       have g32 : f 32 = (.int .i64 (ls.length : Int)) := (hf 32).symm.trans (hF.slot 32 (by kernel_rfl))
       have g33 : f 33 = (.bool (decide ((30 : Int) < (ls.length : Int)))) := (hf 33).symm.trans (hF.slot 33 (by kernel_rfl))
       have g34 : f 34 = (.bool (decide ((30 : Int) < (ls.length : Int)))) := (hf 34).symm.trans (hF.slot 34 (by kernel_rfl))
       have g35 : f 35 = (undef) := (hf 35).symm.trans (hF.slot 35 (by kernel_rfl))
       have g36 : f 36 = (u36) := (hf 36).symm.trans (hF.slot 36 (by kernel_rfl))
       have g37 : f 37 = (u37) := (hf 37).symm.trans (hF.slot 37 (by kernel_rfl))
       have g38 : f 38 = (u38) := (hf 38).symm.trans (hF.slot 38 (by kernel_rfl))
       have g39 : f 39 = (u39) := (hf 39).symm.trans (hF.slot 39 (by kernel_rfl))
       have g40 : f 40 = (u40) := (hf 40).symm.trans (hF.slot 40 (by kernel_rfl))
       have g41 : f 41 = (u41) := (hf 41).symm.trans (hF.slot 41 (by kernel_rfl))
       have g42 : f 42 = (u42) := (hf 42).symm.trans (hF.slot 42 (by kernel_rfl))
       have g43 : f 43 = (u43) := (hf 43).symm.trans (hF.slot 43 (by kernel_rfl))
       have g44 : f 44 = (u44) := (hf 44).symm.trans (hF.slot 44 (by kernel_rfl))
       have g45 : f 45 = (u45) := (hf 45).symm.trans (hF.slot 45 (by kernel_rfl))
       have g46 : f 46 = (u46) := (hf 46).symm.trans (hF.slot 46 (by kernel_rfl))
       have g47 : f 47 = (u47) := (hf 47).symm.trans (hF.slot 47 (by kernel_rfl))
       have g48 : f 48 = (u48) := (hf 48).symm.trans (hF.slot 48 (by kernel_rfl))
       have g49 : f 49 = (u49) := (hf 49).symm.trans (hF.slot 49 (by kernel_rfl))
       have g50 : f 50 = (u50) := (hf 50).symm.trans (hF.slot 50 (by kernel_rfl))
       have g51 : f 51 = (u51) := (hf 51).symm.trans (hF.slot 51 (by kernel_rfl))
       have g52 : f 52 = (u52) := (hf 52).symm.trans (hF.slot 52 (by kernel_rfl))
       have g53 : f 53 = (u53) := (hf 53).symm.trans (hF.slot 53 (by kernel_rfl))
       have g54 : f 54 = (u54) := (hf 54).symm.trans (hF.slot 54 (by kernel_rfl))
       have g55 : f 55 = (u55) := (hf 55).symm.trans (hF.slot 55 (by kernel_rfl))
       have g56 : f 56 = (u56) := (hf 56).symm.trans (hF.slot 56 (by kernel_rfl))
       have g57 : f 57 = (.pointer (some ⟨p, 0, none⟩)) := (hf 57).symm.trans (hF.slot 57 (by kernel_rfl))
       have g58 : f 58 = (.tuple #[]) := (hf 58).symm.trans (hF.slot 58 (by kernel_rfl))
       have g59 : f 59 = (.map (some mb)) := (hf 59).symm.trans (hF.slot 59 (by kernel_rfl))
       have g60 : f 60 = (.slice (some ⟨mb + 1, 0, none⟩) 0 0) := (hf 60).symm.trans (hF.slot 60 (by kernel_rfl))
       have g61 : f 61 = (.int .i64 (kB : Int)) := (hf 61).symm.trans (hF.slot 61 (by kernel_rfl))
       have g62 : f 62 = (.slice (some bd) ls.length cy) := (hf 62).symm.trans (hF.slot 62 (by kernel_rfl))
       have g63 : f 63 = (.int .i64 (ls.length : Int)) := (hf 63).symm.trans (hF.slot 63 (by kernel_rfl))
       have g64 : f 64 = (.bool false) := (hf 64).symm.trans (hF.slot 64 (by kernel_rfl))
       have g65 : f 65 = (u65) := (hf 65).symm.trans (hF.slot 65 (by kernel_rfl))
       have g66 : f 66 = (u66) := (hf 66).symm.trans (hF.slot 66 (by kernel_rfl))
       have g67 : f 67 = (u67) := (hf 67).symm.trans (hF.slot 67 (by kernel_rfl))
       have g68 : f 68 = (u68) := (hf 68).symm.trans (hF.slot 68 (by kernel_rfl))
       have g69 : f 69 = (u69) := (hf 69).symm.trans (hF.slot 69 (by kernel_rfl))
       have g70 : f 70 = (u70) := (hf 70).symm.trans (hF.slot 70 (by kernel_rfl))
       have g71 : f 71 = (u71) := (hf 71).symm.trans (hF.slot 71 (by kernel_rfl))
       have g72 : f 72 = (u72) := (hf 72).symm.trans (hF.slot 72 (by kernel_rfl))
       have g73 : f 73 = (u73) := (hf 73).symm.trans (hF.slot 73 (by kernel_rfl))
       have g74 : f 74 = (u74) := (hf 74).symm.trans (hF.slot 74 (by kernel_rfl))
       have g75 : f 75 = (u75) := (hf 75).symm.trans (hF.slot 75 (by kernel_rfl))
       have g76 : f 76 = (u76) := (hf 76).symm.trans (hF.slot 76 (by kernel_rfl))
       have g77 : f 77 = (u77) := (hf 77).symm.trans (hF.slot 77 (by kernel_rfl))
       have g78 : f 78 = (u78) := (hf 78).symm.trans (hF.slot 78 (by kernel_rfl))
       have g79 : f 79 = (u79) := (hf 79).symm.trans (hF.slot 79 (by kernel_rfl))
       have g80 : f 80 = (u80) := (hf 80).symm.trans (hF.slot 80 (by kernel_rfl))
       have g81 : f 81 = (u81) := (hf 81).symm.trans (hF.slot 81 (by kernel_rfl))
       have g82 : f 82 = (u82) := (hf 82).symm.trans (hF.slot 82 (by kernel_rfl))
       have g83 : f 83 = (u83) := (hf 83).symm.trans (hF.slot 83 (by kernel_rfl))
       have g84 : f 84 = (u84) := (hf 84).symm.trans (hF.slot 84 (by kernel_rfl))
       have g85 : f 85 = (u85) := (hf 85).symm.trans (hF.slot 85 (by kernel_rfl))
       have g86 : f 86 = (u86) := (hf 86).symm.trans (hF.slot 86 (by kernel_rfl))
       have g87 : f 87 = (u87) := (hf 87).symm.trans (hF.slot 87 (by kernel_rfl))
       have g88 : f 88 = (u88) := (hf 88).symm.trans (hF.slot 88 (by kernel_rfl))
       have g89 : f 89 = (u89) := (hf 89).symm.trans (hF.slot 89 (by kernel_rfl))
       have g90 : f 90 = (u90) := (hf 90).symm.trans (hF.slot 90 (by kernel_rfl))
       have g91 : f 91 = (u91) := (hf 91).symm.trans (hF.slot 91 (by kernel_rfl))
       have g92 : f 92 = (u92) := (hf 92).symm.trans (hF.slot 92 (by kernel_rfl))
       have g93 : f 93 = (u93) := (hf 93).symm.trans (hF.slot 93 (by kernel_rfl))
       have g94 : f 94 = (u94) := (hf 94).symm.trans (hF.slot 94 (by kernel_rfl))
       have g95 : f 95 = (u95) := (hf 95).symm.trans (hF.slot 95 (by kernel_rfl))
       have g96 : f 96 = (u96) := (hf 96).symm.trans (hF.slot 96 (by kernel_rfl))
       have g97 : f 97 = (u97) := (hf 97).symm.trans (hF.slot 97 (by kernel_rfl))
       have g98 : f 98 = (u98) := (hf 98).symm.trans (hF.slot 98 (by kernel_rfl))
       have g99 : f 99 = (u99) := (hf 99).symm.trans (hF.slot 99 (by kernel_rfl))
       have g100 : f 100 = (u100) := (hf 100).symm.trans (hF.slot 100 (by kernel_rfl))
       have g101 : f 101 = (u101) := (hf 101).symm.trans (hF.slot 101 (by kernel_rfl))
       have g102 : f 102 = (u102) := (hf 102).symm.trans (hF.slot 102 (by kernel_rfl))
       have g103 : f 103 = (u103) := (hf 103).symm.trans (hF.slot 103 (by kernel_rfl))
       have g104 : f 104 = (u104) := (hf 104).symm.trans (hF.slot 104 (by kernel_rfl))
       have g105 : f 105 = (u105) := (hf 105).symm.trans (hF.slot 105 (by kernel_rfl))
       have g106 : f 106 = (u106) := (hf 106).symm.trans (hF.slot 106 (by kernel_rfl))
       have g107 : f 107 = (u107) := (hf 107).symm.trans (hF.slot 107 (by kernel_rfl))
       have g108 : f 108 = (u108) := (hf 108).symm.trans (hF.slot 108 (by kernel_rfl))
       have g126 : f 126 = (.int .i64 0) := (hf 126).symm.trans (F 0 126 rfl)
       have g127 : f 127 = (.bool false) := (hf 127).symm.trans (F 1 127 rfl)
       have g128 : f 128 = (.bool false) := (hf 128).symm.trans (F 2 128 rfl)
       have g129 : f 129 = (.agg #[.int .i64 1, .int .i64 no, .int .i64 (P.x.ep + 1), .int .i64 0, .slice A3 1 c3]) := (hf 129).symm.trans (F 3 129 rfl)
       have g130 : f 130 = (.slice (some ad) P.nw.length c) := (hf 130).symm.trans (F 4 130 rfl)
       have g131 : f 131 = (.int .i64 (k : Int)) := (hf 131).symm.trans (F 5 131 rfl)
       have g132 : f 132 = (.pointer (some (ad.add k))) := (hf 132).symm.trans (F 6 132 rfl)
       have g133 : f 133 = (.int .i64 no) := (hf 133).symm.trans (F 7 133 rfl)
       have g134 : f 134 = (.pointer (some ⟨p, 0, none⟩)) := (hf 134).symm.trans (F 8 134 rfl)
       have g135 : f 135 = (.agg #[.int .i64 P.x.ep, .int .i64 P.x.root, .int .i64 P.x.free, .int .i64 P.x.pages]) := (hf 135).symm.trans (F 9 135 rfl)
       have g136 : f 136 = (.int .i64 P.x.ep) := (hf 136).symm.trans (F 10 136 rfl)
       have g137 : f 137 = (.int .i64 (P.x.ep + 1)) := (hf 137).symm.trans (F 11 137 rfl)
       have g138 : f 138 = (.slice (some bd) ls.length cy) := (hf 138).symm.trans (F 12 138 rfl)
       have g139 : f 139 = (.int .i64 (k : Int)) := (hf 139).symm.trans (F 13 139 rfl)
       have g140 : f 140 = (.pointer (some (bd.add k))) := (hf 140).symm.trans (F 14 140 rfl)
       have g141 : f 141 = (.string s) := (hf 141).symm.trans (F 15 141 rfl)
       obtain ⟨x142, g142⟩ : ∃ x, f 142 = x := ⟨_, rfl⟩
       have f16 : NSt s x142 w := by rw [← g142, ← hf 142]; exact F 16 142 rfl
       obtain ⟨x143, g143⟩ : ∃ x, f 143 = x := ⟨_, rfl⟩
       have f17 : NPg no (P.x.ep + 1) s x143 w := by rw [← g143, ← hf 143]; exact F 17 143 rfl
       have g144 : f 144 = (.bool true) := (hf 144).symm.trans (F 18 144 rfl)
       have g145 : f 145 = (.bool false) := (hf 145).symm.trans (F 19 145 rfl)
       have g146 : f 146 = (.bool false) := (hf 146).symm.trans (F 20 146 rfl)
       have ha := Frames.frame (show a.tmps.size = 147 from hF.size) hF.defers hf (l := [f 0, f 1, f 2, f 3, f 4, f 5, f 6, f 7, f 8, f 9, f 10, f 11, f 12, f 13, f 14, f 15, f 16, f 17, f 18, f 19, f 20, f 21, f 22, f 23, f 24, f 25, f 26, f 27, f 28, f 29, f 30, f 31, f 32, f 33, f 34, f 35, f 36, f 37, f 38, f 39, f 40, f 41, f 42, f 43, f 44, f 45, f 46, f 47, f 48, f 49, f 50, f 51, f 52, f 53, f 54, f 55, f 56, f 57, f 58, f 59, f 60, f 61, f 62, f 63, f 64, f 65, f 66, f 67, f 68, f 69, f 70, f 71, f 72, f 73, f 74, f 75, f 76, f 77, f 78, f 79, f 80, f 81, f 82, f 83, f 84, f 85, f 86, f 87, f 88, f 89, f 90, f 91, f 92, f 93, f 94, f 95, f 96, f 97, f 98, f 99, f 100, f 101, f 102, f 103, f 104, f 105, f 106, f 107, f 108, f 109, f 110, f 111, f 112, f 113, f 114, f 115, f 116, f 117, f 118, f 119, f 120, f 121, f 122, f 123, f 124, f 125, f 126, f 127, f 128, f 129, f 130, f 131, f 132, f 133, f 134, f 135, f 136, f 137, f 138, f 139, f 140, f 141, f 142, f 143, f 144, f 145, f 146]) rfl
       simp only [g0, g1, g2, g3, g5, g6, g7, g8, g9, g10, g11, g12, g13, g14, g15, g16, g17, g18, g19, g20, g21, g22, g23, g24, g25, g26, g27, g28, g29, g30, g31, g32, g33, g34, g35, g36, g37, g38, g39, g40, g41, g42, g43, g44, g45, g46, g47, g48, g49, g50, g51, g52, g53, g54, g55, g56, g57, g58, g59, g60, g61, g62, g63, g64, g65, g66, g67, g68, g69, g70, g71, g72, g73, g74, g75, g76, g77, g78, g79, g80, g81, g82, g83, g84, g85, g86, g87, g88, g89, g90, g91, g92, g93, g94, g95, g96, g97, g98, g99, g100, g101, g102, g103, g104, g105, g106, g107, g108, g126, g127, g128, g129, g130, g131, g132, g133, g134, g135, g136, g137, g138, g139, g140, g141, g142, g143, g144, g145, g146] at ha
       clear F hF hf g0 g1 g2 g3 g5 g6 g7 g8 g9 g10 g11 g12 g13 g14 g15 g16 g17 g18 g19 g20 g21 g22 g23 g24 g25 g26 g27 g28 g29 g30 g31 g32 g33 g34 g35 g36 g37 g38 g39 g40 g41 g42 g43 g44 g45 g46 g47 g48 g49 g50 g51 g52 g53 g54 g55 g56 g57 g58 g59 g60 g61 g62 g63 g64 g65 g66 g67 g68 g69 g70 g71 g72 g73 g74 g75 g76 g77 g78 g79 g80 g81 g82 g83 g84 g85 g86 g87 g88 g89 g90 g91 g92 g93 g94 g95 g96 g97 g98 g99 g100 g101 g102 g103 g104 g105 g106 g107 g108 g126 g127 g128 g129 g130 g131 g132 g133 g134 g135 g136 g137 g138 g139 g140 g141 g142 g143 g144 g145 g146
       subst ha
       have hJ1 := hJ
       obtain ⟨jp, jx, jr, jn, js, jw⟩ := hJ1
       have HJ := Lib.hid hJ
       clear hJ f16 f17 jx jr jn js jp
       go_wp2_with fail
       go_roundw
       case rel => exact ⟨k + 1, _, _, by omega, by go_num, HJ.out.jp, HF3.out.1, by have := HF3.out.2; omega, HJ.out.jw⟩
       case measure => simp [intOf]; omega
   have hltI : (kB : Int) < (ls.length : Int) := by omega
   obtain ⟨bd, hB, _, hs⟩ := strs_get (HYS.out.belowSize hN.pm.base) kB hlt
   subst hB
   by_cases h200 : ls[kB].size ≤ 200
   rotate_left
   ·have h2 : (200 : Int) < (ls[kB].size : Int) := by omega
    have HB := Lib.hid hN.pm.base
    clear hN h200
    generalize ls[kB] = s at *
    go_wp2_with fail
    go_ret
    exact ⟨rfl, HB.out⟩
   have h2 : ¬ ((200 : Int) < (ls[kB].size : Int)) := by omega
   have HLEN := Lib.hid (show P.nw.length ≤ 30 from by have := hN.made.len; rw [this, List.length_take]; omega)
   have HTK := Lib.hid (show ls.take (kB + 1) = ls.take kB ++ [ls[kB]] from List.take_succ_eq_append_getElem hlt)
   obtain ⟨Q, no, hnew, hmd, hnw, hnn, hqx, hqm, hqp, hn2, hnp⟩ := made_one hN.made (by have := hN.ep; omega) h200 (by have := hN.pg; have := hN.most; omega)
   have HMQ := Lib.hid (And.intro hmd (And.intro hnw (And.intro hnn (And.intro hqx (And.intro hqm (And.intro hqp (And.intro hn2 hnp)))))))
   have HSQ := Lib.hid (show ∀ s ∈ ls.take (kB + 1), s.size ≤ 200 from fun s hs => by
    rw [HTK.out] at hs
    rcases List.mem_append.1 hs with hs | hs
    ·exact hN.sz s hs
    ·rw [List.mem_singleton.1 hs]; exact h200)
   clear hmd hnw hnn hqx hqm hqp h200
   obtain ⟨s, hse⟩ : ∃ s, ls[kB] = s := ⟨_, rfl⟩
   rw [hse] at hs h2 hnew
   obtain ⟨w1, hw1⟩ : ∃ v, v = wr.alloc (.cells #[.string s] 9) := ⟨_, rfl⟩
   have b1 : Below wr.heap.size wr w1 := by rw [hw1]; exact al' _ _
   have r1 : RowP w1 (Plus S wr w1) (some ⟨wr.heap.size, 0, none⟩) (strs [s]) := by rw [hw1]; exact one_str wr s _
   have h1 := hN.pm.more X b1
   have hcall := pm_new X h1 hN.fine 1 0 [s] (some ⟨wr.heap.size, 0, none⟩) 1 1 rfl (by unfold In; omega) (by unfold In; omega) (fewC_one s (by omega)) r1
   rw [hnew] at hcall
   simp only at hcall
   have HN := Lib.hid (And.intro hN b1)
   have HSE := Lib.hid hse
   have HW1 := Lib.hid hw1
   have HNEW := Lib.hid hnew
   clear hN hw1 b1 r1 hse hnew
   go_wp2_with fail
   try rw [← HW1.out]
   (with_reducible refine hcall.mono ?_)
   clear hcall
   rintro e w2 ⟨rfl, h2q, t2⟩
   have hN := HN.out.1
   have b1 := HN.out.2
   clear HN HW1
   have hS1 : Plus S wr w1 mb := Or.inl hN.sm.1
   have om2 : OM w2 mb kB D := om_same hN.om ((t2.block _ (Nat.lt_of_lt_of_le hN.om.lt b1.size) fun q => q hS1).trans (b1.block _ hN.om.lt))
   have ow2 : Own w2 (mb + 1) 3 AN c (intsV P.nw) := own_same hN.own fun j hj => (t2.block _ (Nat.lt_of_lt_of_le (hN.own.block j hj).2 b1.size) fun q => q (Or.inl (hN.so j hj).1)).trans (b1.block _ (hN.own.block j hj).2)
   have hso : ∀ b, (Value.slice AN (intsV P.nw).length c).ownBlock = some b → Plus S wr w1 b ∧ W.heap.size ≤ b := fun b hb => ⟨Or.inl (hN.so b hb).1, (hN.so b hb).2⟩
   have hsm : Plus S wr w1 mb ∧ W.heap.size ≤ mb := ⟨hS1, hN.sm.2⟩
   have HK := Lib.hid (And.intro hN.cnt (And.intro hN.fine (And.intro hN.mm (And.intro hN.pg (And.intro hN.most hN.ep)))))
   have h2q : PM M W w2 p d Q (m + 1000000) (Plus S wr w1) := h2q
   have hfq : Fine Q (m + 1000000) := by
    have ha := fine_act hN.fine ⟨0, 1, 0, 0, 0, 0, [s]⟩ (by have := hN.ep; omega) (by have := hN.mm; omega)
    have e0 : PagerPlain.act P ⟨0, 1, 0, 0, 0, 0, [s]⟩ = (Q, no, 0) := by rw [← HNEW.out]; simp [PagerPlain.act]
    rw [e0] at ha
    exact ha
   have HFQ := Lib.hid hfq
   generalize Plus S wr w1 = S1 at h2q hso hsm
   clear hN b1 t2 h1 hS1 hfq
   have hcall := pm_pages X h2q
   have hcn : (P.nw).count no = 0 := List.count_eq_zero.2 HMQ.out.2.2.1
   have hkey := keyOf_int_mk Tryz.underlying3 (wf_small (x := no) (by have := HMQ.out.2.2.2.2.2.2.1; omega) (by have a := HMQ.out.2.2.2.2.2.2.2; have b := HMQ.out.2.2.2.2.2.1; have c := HK.out.2.2.2.1; omega))
   have g1 : ¬ no < 2 := by have := HMQ.out.2.2.2.2.2.2.1; omega
   have g2 : ¬ Q.pg ≤ no := by have := HMQ.out.2.2.2.2.2.2.2; omega
   obtain ⟨cc, hlk, hat, _⟩ := World.ownsMap.lookup_int om2 lawI Tryz.underlying64 Tryz.underlying3 (zeroI _) hkey
   obtain rfl := FreeCover.look HK.out.1 hat
   rw [hcn] at hlk
   clear hat
   go_wp2_with fail
   (with_reducible refine hcall.mono ?_)
   clear hcall hkey hcn hlk
   rintro e w3 ⟨rfl, b3⟩
   have om3 : OM w3 mb kB D := om_same om2 (b3.block _ om2.lt)
   have ow3 := ow2.later b3
   have h3 := h2q.below X b3
   clear om2 ow2 h2q b3
   have hkey := keyOf_int_mk Tryz.underlying3 (wf_small (x := no) (by have := HMQ.out.2.2.2.2.2.2.1; omega) (by have a := HMQ.out.2.2.2.2.2.2.2; have b := HMQ.out.2.2.2.2.2.1; have c := HK.out.2.2.2.1; omega))
   go_upto_region 21 with (at_mapUpdate; refine wpList_mapUpdate_own _ rfl _ _ _ 64 rfl 3 3 lawI Tryz.underlying64 _ mb kB _ rfl om3 (by unfold maxLen; omega) _ _ _ rfl rfl hkey (vl 1) [] (plainElem_int (H := Unit) (a := ((1 : Nat) : Int)) Tryz.underlying3 (wf_small (by omega) (by omega))) ?_; intro w4 om4 hg4)
   have hmbo : ∀ b, (Value.slice AN (intsV P.nw).length c).ownBlock = some b → b ≠ mb := fun b hb => by have := (ow3.block b hb).1; omega
   have ow4 : Own w4 (mb + 1) 3 AN c (intsV P.nw) := own_same ow3 fun j hj => hg4.block j (ow3.block j hj).2 (fun q => hmbo j hj (Option.some.inj q))
   have t4 : Turn (fun b => b = mb) w3 w4 := Turn.ofGrown hg4 fun j hj _ => (Option.some.inj hj).symm
   have h4 := pm_own X h3 t4 fun b _ hb => by rw [hb]; exact hsm
   have hs4 : ∀ b, (Value.slice AN (intsV P.nw).length c).ownBlock = some b → Plus S1 w3 w4 b ∧ W.heap.size ≤ b := fun b hb => ⟨Or.inl (hso b hb).1, (hso b hb).2⟩
   have hm4 : Plus S1 w3 w4 mb ∧ W.heap.size ≤ mb := ⟨Or.inl hsm.1, hsm.2⟩
   generalize Plus S1 w3 w4 = S4 at h4 hs4 hm4
   clear om3 ow3 h3 hg4 t4 hso hsm hkey
   obtain ⟨w5, hw5⟩ : ∃ v, v = w4.alloc (.cells #[.int .i64 no] 3) := ⟨_, rfl⟩
   have b5 : Below w4.heap.size w4 w5 := by rw [hw5]; exact al' _ _
   have a5 : At w5 w4.heap.size 3 #[.int .i64 no] := by rw [hw5]; exact heap_alloc_new w4 _
   have h5 := h4.more X b5
   have om5 := om_same om4 (b5.block _ om4.lt)
   have ow5 := ow4.later b5
   obtain ⟨A', c', w6, hrun, ow6, hg6, hloc⟩ := FreeMid.run_append_loc 32 el_ints (c2 := 1) ow5 (one_int a5) (by simp) (by intro u hu; rw [List.mem_singleton.1 hu]; rfl) (by rw [PagerSame.intsV_len]; have := HMQ.out.2.1; have := HK.out.1; simp [maxLen]; have := HLEN.out; omega) (by rw [PagerSame.intsV_len]; have := HLEN.out; simp; omega) (by have := om5.lt; omega)
   have HW5 := Lib.hid hw5
   clear hw5 h4 om4 ow4
   have t6 : Turn (fun b => (Value.slice AN (intsV P.nw).length c).ownBlock = some b) w5 w6 := Turn.ofGrown hg6 fun j hj _ => hj
   have h6 := pm_own X h5 t6 fun b _ hb => ⟨Or.inl (hs4 b hb).1, (hs4 b hb).2⟩
   have om6 : OM w6 mb (kB + 1) (D.put (kl no) (vl 1)) := om_same om5 (hg6.block _ om5.lt fun q => hmbo _ q.symm rfl)
   have hcp := cnt_put (x := no) HK.out.1
   rw [List.count_eq_zero.2 HMQ.out.2.2.1, ← HMQ.out.2.1] at hcp
   have eqn : intsV Q.nw = intsV P.nw ++ [.int .i64 no] := by rw [HMQ.out.2.1]; simp [intsV]
   rw [← eqn] at ow6
   have hs6 : ∀ b, (Value.slice A' (intsV Q.nw).length c').ownBlock = some b → Plus (Plus S4 w4 w5) w5 w6 b ∧ W.heap.size ≤ b := fun b hb => by
    have hl : (intsV Q.nw).length = (intsV P.nw).length + [Value.int .i64 no].length := by rw [eqn, List.length_append]
    rw [hl] at hb
    rcases hloc with q | q
    ·rw [q] at hb; exact ⟨Or.inl (Or.inl (hs4 b hb).1), (hs4 b hb).2⟩
    ·rw [q] at hb; injection hb with hb; subst hb; refine ⟨Or.inr ⟨Nat.le_refl _, ?_⟩, Nat.le_trans hm4.2 (Nat.le_of_lt om5.lt)⟩
     have := (ow6.block w5.heap.size (by rw [hl]; exact q)).2
     exact this
   have hlenQ : Q.nw.length = P.nw.length + 1 := by rw [HMQ.out.2.1]; simp
   have HN6 := Lib.hid (show Nm M W p d mb (mb + 1) ls (kB + 1) Q (m + 1000000) (Plus (Plus S4 w4 w5) w5 w6) A' c' (D.put (kl no) (vl 1)) w6 from ⟨h6, om6, hcp, ow6, hs6, ⟨Or.inl (Or.inl hm4.1), hm4.2⟩, by rw [HTK.out, HSE.out]; rw [HSE.out] at HMQ; exact HMQ.out.1, HFQ.out, by have := HK.out.2.2.1; omega, by have a := HMQ.out.2.2.2.2.2.1; have b := HK.out.2.2.2.1; omega, by rw [HMQ.out.2.2.2.2.1]; exact HK.out.2.2.2.2.1, by rw [HMQ.out.2.2.2.1]; exact HK.out.2.2.2.2.2, HSQ.out⟩)
   have HLQ := Lib.hid hlenQ
   rw [PagerSame.intsV_len] at hrun
   clear h5 h6 om5 om6 ow5 ow6 hg6 t6 hcp eqn hs6 hs4 hm4 hmbo hloc a5 b5 hlenQ
   go_wp2_with (at_builtin; rw [← HW5.out]; refine wpList_append_run rfl (.tmp 105) (.tmp 107) 32 32 rfl rfl rfl hrun ?_)
   go_roundw
   case rel => exact ⟨kB + 1, Q, _, _, A', c', _, by omega, by go_num, by rw [HLQ.out], HN6.out⟩
   case measure => simp [intOf]; omega
end Go.Proofs.YtpidnkfcccboaaaGreat.PagerNumbers
