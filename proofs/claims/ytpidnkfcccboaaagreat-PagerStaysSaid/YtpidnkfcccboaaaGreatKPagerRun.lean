/- PagerLaw, PagerDo, PagerAwake, PagerRun, PagerSame. -/
import Derived.Test.YtpidnkfcccboaaaGreatKPagerPlumb
import Derived.Test.YtpidnkfcccboaaaGreatKPlumb
import Derived.BigGuard
import Derived.BigQuiet
import Derived.Deep.Cut
import Derived.Deep.QuietTactic
import Derived.OwnWalk
import Derived.RegionTactic
namespace Go.Proofs.YtpidnkfcccboaaaGreat.PagerLaw
open Go.RowKit Base PagePlain PageSmall FreePlain FreeMem SuperPlain SuperRefCheck PagerPlain PagerTold PagerNum PagerSpec PagerPlumb DiskMem

theorem al' (w : World) (o : Obj) : Below w.heap.size w (w.alloc o) := (Below.refl _ _).alloc (Nat.le_refl _) _
theorem most_act {P : PS} (hi : Inv P) (a : PA) : (act P a).1.most = P.most := by
 by_cases hk : a.kind = 3
 ·unfold PagerPlain.act
  rw [if_neg (by omega), if_neg (by omega), if_neg (by omega), if_pos hk]
  rcases commit_cases hi a.root with ⟨_, e⟩ | ⟨_, n, _, _, e⟩ | ⟨Q, R, c, e, hc⟩
  ·rw [e]
  ·rw [e]; rfl
  ·rw [e, hc.eq]; exact hc.many.kept.most
 ·exact (still_act hi a hk).most
theorem fine_act {P : PS} {m : Int} (h : Fine P m) (a : PA) (he : P.x.ep ≤ 999999) (hm : m ≤ 699000000) : Fine (act P a).1 (m + 1000000) := by
 have := ep_act h.inv a
 have := h.m0
 exact ⟨PagerTold.Inv.act h.inv a, PagerTold.Told.act h.told h.inv (by omega) a, by rw [most_act h.inv]; exact h.few, by omega, by omega, by omega⟩
theorem fine_fresh {n : Int} (h1 : 2 ≤ n) (h2 : n ≤ 300) : Fine (freshP n) 1000000 := ⟨inv_fresh h1 (by omega), told_fresh n, h2, (show (1 : Int) ≤ 1000000 by omega), by omega, by omega⟩
theorem fine_read {P : PS} {m : Int} (h : Fine P m) (hm : m ≤ 699999000) : Fine P (m + 1000) := ⟨h.inv, h.told, h.few, h.ep, by have := h.m0; omega, by omega⟩
theorem fine_abort {P : PS} {m : Int} (h : Fine P m) (hm : m ≤ 699000000) : Fine P.abort (m + 1000000) :=
 ⟨h.inv.abort, ⟨h.told.ok, h.told.slot, h.told.other, h.told.free, h.told.chain, h.told.fit⟩, h.few, h.ep, by have := h.m0; omega, by omega⟩
theorem turn_plus {S : Blks} {w w1 w' : World} (hb : Below w.heap.size w w1) (t : Turn (Not (Plus S w w1)) w1 w') : Turn (Not S) w w' :=
 ⟨t.os.trans hb.os, t.tape.trans hb.tape, t.output.trans hb.output, Nat.le_trans hb.size t.size, fun k hk hn => by
  have hs : S k := Classical.byContradiction hn
  exact (t.block k (Nat.lt_of_lt_of_le hk hb.size) fun q => q (Or.inl hs)).trans (hb.block k hk)⟩
section
variable {M : Mem} (X : Specs M) {W w w' : World} {p d : Nat} {P : PS} {m : Int} {S : Blks}
include X
theorem pm_super (h : PM M W w p d P m S) : Calls Tryz.prog 16 #[.pointer (some ⟨p, 0, none⟩)] w fun e w' => e = .returned (sv P.x) ∧ Below w.heap.size w w' := by
 obtain ⟨F, h1, _⟩ := h.mem
 exact X.super h1
theorem pm_pages (h : PM M W w p d P m S) : Calls Tryz.prog 21 #[.pointer (some ⟨p, 0, none⟩)] w fun e w' => e = .returned (.int .i64 P.pg) ∧ Below w.heap.size w w' := by
 obtain ⟨F, h1, _⟩ := h.mem
 exact X.pages h1
theorem pm_free (h : PM M W w p d P m S) (hf : Fine P m) : Calls Tryz.prog 18 #[.pointer (some ⟨p, 0, none⟩)] w fun e w' => ∃ A c, e = .returned (.slice A P.fl.length c) ∧ Below w.heap.size w w' ∧ PM M W w' p d P m (Plus S w w') ∧ RowP w' (Plus S w w') A (fr P.fl) := by
 obtain ⟨F, h1, _⟩ := h.mem
 exact (X.free h1 hf).mono fun e w' ⟨A, c, a, b, r⟩ => ⟨A, c, a, b, h.more X b, fun k v hv => by
  obtain ⟨ad, e1, e2, e3, e4⟩ := r k v hv
  exact ⟨ad, e1, Or.inr ⟨e2, e3⟩, e3, e4⟩⟩
theorem pm_chain (h : PM M W w p d P m S) (hf : Fine P m) : Calls Tryz.prog 20 #[.pointer (some ⟨p, 0, none⟩)] w fun e w' => ∃ A c, e = .returned (.slice A P.ch.length c) ∧ Below w.heap.size w w' ∧ PM M W w' p d P m (Plus S w w') ∧ RowP w' (Plus S w w') A (intsV P.ch) := by
 obtain ⟨F, h1, _⟩ := h.mem
 exact (X.chain h1 hf).mono fun e w' ⟨A, c, a, b, r⟩ => ⟨A, c, a, b, h.more X b, fun k v hv => by
  obtain ⟨ad, e1, e2, e3, e4⟩ := r k v hv
  exact ⟨ad, e1, Or.inr ⟨e2, e3⟩, e3, e4⟩⟩
theorem pm_drop (h : PM M W w p d P m S) (hf : Fine P m) (no : Int) (hn : In no) : Calls Tryz.prog 38 #[.pointer (some ⟨p, 0, none⟩), .int .i64 no] w fun e w' => e = .returned (.int .i64 (P.drop no).2) ∧ PM M W w' p d (P.drop no).1 (m + 1000000) S ∧ Turn (Not S) w w' := by
 obtain ⟨F, h1, h2⟩ := h.mem
 exact (X.drop no h1 hf hn).mono fun e w' ⟨a, g⟩ => ⟨a, h.gone0 h2 g⟩
theorem pm_commit (h : PM M W w p d P m S) (hf : Fine P m) (no : Int) (hn : In no) : Calls Tryz.prog 29 #[.pointer (some ⟨p, 0, none⟩), .int .i64 no] w fun e w' => e = .returned (.int .i64 (P.commit no).2) ∧ PM M W w' p d (P.commit no).1 (m + 1000000) S ∧ Turn (Not S) w w' := by
 obtain ⟨F, h1, h2⟩ := h.mem
 exact (X.commit no h1 hf hn).mono fun e w' ⟨a, g⟩ => ⟨a, h.gone0 h2 g⟩
theorem pm_abort (h : PM M W w p d P m S) (hf : Fine P m) : Calls Tryz.prog 24 #[.pointer (some ⟨p, 0, none⟩)] w fun e w' => e = .returned (.tuple #[]) ∧ PM M W w' p d P.abort (m + 1000000) S ∧ Turn (Not S) w w' := by
 obtain ⟨F, h1, h2⟩ := h.mem
 exact (X.abort h1 hf).mono fun e w' ⟨a, g⟩ => ⟨a, h.gone0 h2 g⟩
theorem pm_oldest (h : PM M W w p d P m S) (hf : Fine P m) (ep : Int) (hn : In ep) : Calls Tryz.prog 39 #[.pointer (some ⟨p, 0, none⟩), .int .i64 ep] w fun e w' => e = .returned (.tuple #[]) ∧ PM M W w' p d { P with od := min ep P.x.ep } (m + 1000000) S ∧ Turn (Not S) w w' := by
 obtain ⟨F, h1, h2⟩ := h.mem
 exact (X.oldest ep h1 hf hn).mono fun e w' ⟨a, g⟩ => ⟨a, h.gone0 h2 g⟩
theorem pm_new (h : PM M W w p d P m S) (hf : Fine P m) (kind link : Int) (cells : List ByteArray) (A : Option Addr) (n c : Nat) (hn : n = cells.length) (h1 : In kind) (h2 : In link) (h3 : FewC cells) (hr : RowP w S A (strs cells)) :
  Calls Tryz.prog 27 #[.pointer (some ⟨p, 0, none⟩), .int .i64 kind, .int .i64 link, .slice A n c] w fun e w' => e = .returned (.tuple #[.int .i64 (P.new kind link cells).2.1, .int .i64 (P.new kind link cells).2.2]) ∧ PM M W w' p d (P.new kind link cells).1 (m + 1000000) S ∧ Turn (Not S) w w' := by
 subst hn
 obtain ⟨F, a1, a2⟩ := h.mem
 exact (X.new kind link cells A c a1 hf h1 h2 h3 (hr.wide fun b hb hF => a2 b hF hb)).mono fun e w' ⟨a, g⟩ => ⟨a, h.gone0 a2 g⟩
theorem pm_change (h : PM M W w p d P m S) (hf : Fine P m) (no kind link : Int) (cells : List ByteArray) (A : Option Addr) (n c : Nat) (hn : n = cells.length) (h0 : In no) (h1 : In kind) (h2 : In link) (h3 : FewC cells) (hr : RowP w S A (strs cells)) :
  Calls Tryz.prog 30 #[.pointer (some ⟨p, 0, none⟩), .int .i64 no, .int .i64 kind, .int .i64 link, .slice A n c] w fun e w' => e = .returned (.tuple #[.int .i64 (P.change no kind link cells).2.1, .int .i64 (P.change no kind link cells).2.2]) ∧ PM M W w' p d (P.change no kind link cells).1 (m + 1000000) S ∧ Turn (Not S) w w' := by
 subst hn
 obtain ⟨F, a1, a2⟩ := h.mem
 exact (X.change no kind link cells A c a1 hf h0 h1 h2 h3 (hr.wide fun b hb hF => a2 b hF hb)).mono fun e w' ⟨a, g⟩ => ⟨a, h.gone0 a2 g⟩
end
set_option maxRecDepth 100000 in
set_option maxHeartbeats 1600000 in
theorem few_any (w : World) (x : PA) (A : Option Addr) (c : Nat) (hr : Row w w.heap.size A (strs x.cells)) (hm : x.cells.length ≤ maxLen) :
  Calls Tryz.prog 11 #[av x A c] w fun e w' => e = .returned (.bool (decide (x.cells.length ≤ 130 ∧ ∀ q ∈ x.cells, q.size ≤ 300))) ∧ Below w.heap.size w w' := by
 obtain ⟨z0, z1, z2, z3, z4, z5, cs⟩ := x
 simp only [av] at hr hm ⊢
 unfold maxLen at hm
 have HB := Lib.hid (show decide (cs.length ≤ 130 ∧ ∀ q ∈ cs, q.size ≤ 300) = true ↔ (cs.length ≤ 130 ∧ ∀ q ∈ cs, q.size ≤ 300) from decide_eq_true_iff)
 generalize decide (cs.length ≤ 130 ∧ ∀ q ∈ cs, q.size ≤ 300) = B at *
 have hr' : Row (w.alloc (.cells #[.int .i64 z0, .int .i64 z1, .int .i64 z2, .int .i64 z3, .int .i64 z4, .int .i64 z5, .slice A cs.length c] 39)) w.heap.size A (strs cs) := hr.below ((Below.refl _ _).alloc (Nat.le_refl _) _)
 clear hr
 have hb : Below w.heap.size w (w.alloc (.cells #[.int .i64 z0, .int .i64 z1, .int .i64 z2, .int .i64 z3, .int .i64 z4, .int .i64 z5, .slice A cs.length c] 39)) := (Below.refl _ _).alloc (Nat.le_refl _) _
 by_cases h130 : cs.length ≤ 130
 rotate_left
 ·have HN := Lib.hid (show ¬ (cs.length ≤ 130 ∧ ∀ q ∈ cs, q.size ≤ 300) from fun h => h130 h.1)
  have h3' : (130 : Int) < (cs.length : Int) := by omega
  clear hr'
  generalize cs.length = n at *
  go_enter Tryz.func11, Tryz.ntmps11
  go_wp2_with fail
  go_ret
  exact ⟨ret_bool (Bool.eq_false_iff.2 fun q => HN.out (HB.out.1 q)).symm, hb⟩
 have h3' : ¬ ((130 : Int) < (cs.length : Int)) := by omega
 go_enter Tryz.func11, Tryz.ntmps11
 go_wp2_with fail
 go_loop [3] (fun i => ∃ j : Nat, j ≤ cs.length ∧ i = .int .i64 j ∧ ∀ q ∈ cs.take j, q.size ≤ 300) (fun i => cs.length - (intOf i).toNat)
 case atStart => exact ⟨0, by omega, rfl, by simp⟩
 case round =>
  obtain ⟨j, hj, rfl, hq⟩ := hrel
  by_cases hlt : j < cs.length
  ·have HQ := Lib.hid hq
   clear hq
   obtain ⟨ad, rfl, hb1, hc⟩ := strs_get hr' j hlt
   by_cases h3 : cs[j].size ≤ 300
   ·have HN := Lib.hid (show ∀ q ∈ cs.take (j + 1), q.size ≤ 300 by
     intro q hq
     rw [List.take_succ_eq_append_getElem hlt, List.mem_append] at hq
     rcases hq with hq | hq
     ·exact HQ.out q hq
     ·rw [List.mem_singleton.1 hq]; exact h3)
    generalize cs[j] = q at *
    go_wp2_with fail
    go_round
    case rel => exact ⟨j + 1, by omega, by go_num, HN.out⟩
    case measure => simp [intOf]; omega
   ·have HN := Lib.hid (show ¬ (cs.length ≤ 130 ∧ ∀ q ∈ cs, q.size ≤ 300) from fun h => h3 (h.2 _ (List.getElem_mem hlt)))
    generalize cs[j] = q at *
    have h3' : (300 : Int) < (q.size : Int) := by omega
    go_wp2_with fail
    go_ret
    refine ⟨ret_bool (Bool.eq_false_iff.2 fun q => HN.out (HB.out.1 q)).symm, hb⟩
  ·obtain rfl : j = cs.length := by omega
   rw [List.take_of_length_le (Nat.le_refl _)] at hq
   have HQ := Lib.hid hq
   clear hq
   go_wp2_with fail
   go_ret
   exact ⟨ret_bool (HB.out.2 ⟨h130, HQ.out⟩).symm, hb⟩
end Go.Proofs.YtpidnkfcccboaaaGreat.PagerLaw
namespace Go.Proofs.YtpidnkfcccboaaaGreat.PagerDo
open Go.RowKit Base PagePlain PageSmall FreePlain FreeMem SuperPlain SuperRefCheck PagerPlain PagerTold PagerNum PagerSpec PagerPlumb PagerLaw DiskMem

theorem strs_one (cs : List ByteArray) : ∀ u ∈ strs cs, u.oneCell' = true := fun u hu => by
 simp only [strs, List.mem_map] at hu
 obtain ⟨b, _, rfl⟩ := hu
 rfl
/-- append([]string{}, l...) -/
theorem copyS (w : World) (A : Option Addr) (n c : Nat) (l : List ByteArray) (hn : n = l.length) (hr : Row w w.heap.size A (strs l)) (hl : l.length ≤ 1000) :
  ∃ A' c' w', (Builtin.append_ #[37, 37] 37 #[.slice (some ⟨w.heap.size, 0, none⟩) 0 0, .slice A n c]).run Tryz.prog (w.alloc (.cells #[] 9)) = .ok (.slice A' n c') w' ∧ Own w' w.heap.size 9 A' c' (strs l) ∧ Below w.heap.size w w' := by
 subst hn
 have h0 : Own (w.alloc (.cells #[] 9)) w.heap.size 9 (some ⟨w.heap.size, 0, none⟩) 0 (strs []) := Own.empty _ _ (Nat.le_refl _)
 have b0 := al' w (.cells #[] 9)
 obtain ⟨A', c', w', hrun, ho, hg⟩ := run_append_row (P := Tryz.prog) 37 FreeCellsOf.el_s (c2 := c) h0 (hr.belowSize b0) (strs_one l) (by simp [strs, maxLen]; omega) (by simp [strs]; omega) b0.size
 have e1 : (strs []).length = 0 := rfl
 have e2 : (strs l).length = l.length := by simp [strs]
 rw [e1, e2, Nat.zero_add] at hrun
 exact ⟨A', c', w', hrun, by simpa [strs] using ho, h0.below b0 hg (Nat.le_refl _) b0.size⟩
theorem step_append_d {P : Program} {w : World} {ops : Array Oper} {o : Oper} {a : Act} {K : Act → World → Prop} {Q : Exit → Act → World → Prop} {E : Prop} {d : Tmp} (hg : o.guard = none) (hd : o.dst = some d) (s x : Operand) (t u : TypeId)
  (hop : o.op = Op.call { callee := Callee.builtin Builtin.append, args := #[s, x], argTypes := #[t, u] }) {vs vx v : Value} {w' : World} (hs : a.eval s = vs) (hx : a.eval x = vx)
  (hrun : (Builtin.append_ #[t, u] o.type #[vs, vx]).run P w = .ok v w') (hK : K (a.put (some d) v) w') : if Region.wanted o (yielded ops a.tmps) = true then Oper.wp P o a w K Q else E :=
 FreeCellsOf.step_append_run hg s x t u hop hs hx hrun (by rw [hd]; exact hK)
theorem own_rowP {w : World} {B c : Nat} {e : TypeId} {A : Option Addr} {xs : List Value} {S : Blks} (h : Own w B e A c xs) (hS : ∀ b, B ≤ b → b < w.heap.size → S b) : RowP w S A xs := fun k v hv => by
 obtain ⟨ad, e1, hb, hc⟩ := h.row k v hv
 exact ⟨ad, e1, hS _ (h.block ad.block (by rw [e1]; rfl)).1 hb, hb, hc⟩
theorem atb {w w' : World} {g : Nat} {t : TypeId} {cs : Array Value} (h : At w g t cs) (hb : Below w.heap.size w w') : At w' g t cs := (hb.block _ h.lt).trans h
theorem att {w w' : World} {g : Nat} {t : TypeId} {cs : Array Value} {S : Blks} (h : At w g t cs) (ht : Turn (Not S) w w') (hg : S g) : At w' g t cs := (ht.block _ h.lt fun q => q hg).trans h
theorem seven {w : World} {g : Nat} {t : TypeId} {a b c d e f h : Value} (q : At w g t #[a, b, c, d, e, f, h]) : w.cell? ⟨g, 0, none⟩ = some a ∧ w.cell? ⟨g, 1, none⟩ = some b ∧ w.cell? ⟨g, 2, none⟩ = some c ∧ w.cell? ⟨g, 3, none⟩ = some d ∧ w.cell? ⟨g, 4, none⟩ = some e ∧ w.cell? ⟨g, 5, none⟩ = some f ∧ w.cell? ⟨g, 6, none⟩ = some h :=
 ⟨by rw [q.cell]; rfl, by rw [q.cell]; rfl, by rw [q.cell]; rfl, by rw [q.cell]; rfl, by rw [q.cell]; rfl, by rw [q.cell]; rfl, by rw [q.cell]; rfl⟩
set_option maxRecDepth 100000 in
set_option maxHeartbeats 12800000 in
theorem do_any {M : Mem} (X : Specs M) {W w : World} {p d : Nat} {P : PS} {m : Int} {S : Blks} (h : PM M W w p d P m S) (hf : Fine P m) (x : PA) (hok : ActOk x) (K : Option Addr) (ck : Nat) (hfc : FewC x.cells) (hrow : Row w w.heap.size K (strs x.cells)) :
  Calls Tryz.prog 13 #[.pointer (some ⟨p, 0, none⟩), av x K ck] w fun e w' => e = .returned (.tuple #[.int .i64 (act P x).2.1, .int .i64 (act P x).2.2]) ∧ PM M W w' p d (act P x).1 (m + 1000000) S ∧ Turn (Not S) w w' := by
 obtain ⟨z0, z1, z2, z3, z4, z5, cs⟩ := x
 obtain ⟨o1, o2, o3, o4, o5, _⟩ := hok
 simp only at hfc hrow o1 o2 o3 o4 o5
 have hcl := hfc.1
 obtain ⟨w1, hw1⟩ : ∃ v, v = w.alloc (.cells #[.int .i64 z0, .int .i64 z1, .int .i64 z2, .int .i64 z3, .int .i64 z4, .int .i64 z5, .slice K cs.length ck] 39) := ⟨_, rfl⟩
 have b1 : Below w.heap.size w w1 := by rw [hw1]; exact al' _ _
 have a1 : At w1 w.heap.size 39 #[.int .i64 z0, .int .i64 z1, .int .i64 z2, .int .i64 z3, .int .i64 z4, .int .i64 z5, .slice K cs.length ck] := by rw [hw1]; exact heap_alloc_new w _
 have h1 := h.more X b1
 have hr1 : Row w1 w1.heap.size K (strs cs) := hrow.belowSize b1
 have hbx : Plus S w w1 w.heap.size := Or.inr ⟨Nat.le_refl _, a1.lt⟩
 have HL := Lib.hid (show ∀ w' Q, PM M W w' p d Q (m + 1000000) (Plus S w w1) → PM M W w' p d Q (m + 1000000) S from fun w' Q q => q.less (fun b hb => Or.inl hb) h.low)
 have HT := Lib.hid (show ∀ w', Turn (Not (Plus S w w1)) w1 w' → Turn (Not S) w w' from fun w' q => turn_plus b1 q)
 have HW := Lib.hid hw1
 have hfit := hf.m1
 clear hw1 h hrow b1
 generalize Plus S w w1 = S1 at h1 hbx HL HT
 generalize hbe : w.heap.size = bx at a1 hbx
 go_enter Tryz.func13, Tryz.ntmps13
 by_cases k0 : z0 = 0
 ·subst k0
  have hact : act P ⟨0, z1, z2, z3, z4, z5, cs⟩ = P.new z1 z2 cs := by simp [PagerPlain.act]
  rw [hact]
  have HSP := fun (w' : World) (q : At w' bx 39 #[.int .i64 0, .int .i64 z1, .int .i64 z2, .int .i64 z3, .int .i64 z4, .int .i64 z5, .slice K cs.length ck]) => seven q
  obtain ⟨d0, d1, d2, d3, d4, d5, d6⟩ := HSP _ a1
  go_upto_region 3 with fail
  try rw [← HW.out]
  try rw [hbe]
  clear d0 d1 d2 d3 d4 d5 d6 hbe
  have bE : Below w1.heap.size w1 w1.drew := (Below.refl _ _).drew
  have hE := h1.below X bE
  have aE := atb a1 bE
  have hrE : Row w1.drew w1.drew.heap.size K (strs cs) := hr1.belowSize bE
  have HT := Lib.hid (show ∀ w', Turn (Not S1) w1.drew w' → Turn (Not S) w w' from fun w' q => HT.out w' ((Turn.ofBelow bE).step q))
  clear h1 a1 hr1 HW bE
  refine wp_region_any (by kernel_rfl) ?_
  change wpAny _ _ _ _ _ _ _ (World.drew _)
  generalize World.drew w1 = wE at hE aE hrE HT ⊢
  refine Held.any_of_G (S := (fun w' : World => w'.cell? ⟨bx, 0, none⟩ = some (.int .i64 0) ∧ w'.cell? ⟨bx, 1, none⟩ = some (.int .i64 z1) ∧ w'.cell? ⟨bx, 2, none⟩ = some (.int .i64 z2) ∧ w'.cell? ⟨bx, 3, none⟩ = some (.int .i64 z3) ∧ w'.cell? ⟨bx, 4, none⟩ = some (.int .i64 z4) ∧ w'.cell? ⟨bx, 5, none⟩ = some (.int .i64 z5) ∧ w'.cell? ⟨bx, 6, none⟩ = some (.slice K cs.length ck))) (z := 13) _ _ _ _ ?_
  refine Held.G_take (i := 0) (d := 10) (v := ?_) [0, 9, 10, 11, 12, 13] rfl rfl (by kernel_rfl) (by kernel_rfl) (by kernel_rfl) (by kernel_rfl) (fun _ _ _ h => h) (Or.inl ⟨by rfl, ?_⟩) (HSP _ aE) ?_
  rotate_left 1
  ·intro w hSw; clear hSw; go_simp <;> with_reducible rfl
  simp only [Act.put, List.setIfInBounds_toArray, List.set_cons_zero, List.set_cons_succ]
  refine Held.G_take (i := 1) (d := 11) (v := ?_) [1, 2, 9, 10, 11, 12, 13] rfl rfl (by kernel_rfl) (by kernel_rfl) (by kernel_rfl) (by kernel_rfl) (fun _ _ _ h => h) (Or.inl ⟨by rfl, ?_⟩) (HSP _ aE) ?_
  rotate_left 1
  ·intro w hSw; clear hSw; go_simp <;> with_reducible rfl
  simp only [Act.put, List.setIfInBounds_toArray, List.set_cons_zero, List.set_cons_succ]
  refine Held.G_take (i := 2) (d := 12) (v := ?_) [2, 9, 10, 11, 12, 13] rfl rfl (by kernel_rfl) (by kernel_rfl) (by kernel_rfl) (by kernel_rfl) (fun _ _ _ h => h) (Or.inl ⟨by rfl, ?_⟩) (HSP _ aE) ?_
  rotate_left 1
  ·intro w hSw; obtain ⟨h0, h1, h2, h3, h4, h5, h6⟩ := hSw; go_simp <;> with_reducible rfl
  simp only [Act.put, List.setIfInBounds_toArray, List.set_cons_zero, List.set_cons_succ]
  refine Held.G_take (i := 3) (d := 13) (v := ?_) [3, 4, 9, 10, 11, 12, 13] rfl rfl (by kernel_rfl) (by kernel_rfl) (by kernel_rfl) (by kernel_rfl) (fun _ _ _ h => h) (Or.inl ⟨by rfl, ?_⟩) (HSP _ aE) ?_
  rotate_left 1
  ·intro w hSw; clear hSw; go_simp <;> with_reducible rfl
  simp only [Act.put, List.setIfInBounds_toArray, List.set_cons_zero, List.set_cons_succ]
  refine Held.G_take (i := 4) (d := 14) (v := ?_) [4, 9, 10, 11, 12, 13] rfl rfl (by kernel_rfl) (by kernel_rfl) (by kernel_rfl) (by kernel_rfl) (fun _ _ _ h => h) (Or.inl ⟨by rfl, ?_⟩) (HSP _ aE) ?_
  rotate_left 1
  ·intro w hSw; obtain ⟨h0, h1, h2, h3, h4, h5, h6⟩ := hSw; go_simp <;> with_reducible rfl
  simp only [Act.put, List.setIfInBounds_toArray, List.set_cons_zero, List.set_cons_succ]
  refine Held.G_take (i := 6) (d := 16) (v := ?_) [6, 7, 8, 9, 10, 11, 12, 13] rfl rfl (by kernel_rfl) (by kernel_rfl) (by kernel_rfl) (by kernel_rfl) (fun _ _ _ h => h) (Or.inl ⟨by rfl, ?_⟩) (HSP _ aE) ?_
  rotate_left 1
  ·intro w hSw; clear hSw; go_simp <;> with_reducible rfl
  simp only [Act.put, List.setIfInBounds_toArray, List.set_cons_zero, List.set_cons_succ]
  refine Held.G_take (i := 7) (d := 17) (v := ?_) [7, 8, 9, 10, 11, 12, 13] rfl rfl (by kernel_rfl) (by kernel_rfl) (by kernel_rfl) (by kernel_rfl) (fun _ _ _ h => h) (Or.inl ⟨by rfl, ?_⟩) (HSP _ aE) ?_
  rotate_left 1
  ·intro w hSw; obtain ⟨h0, h1, h2, h3, h4, h5, h6⟩ := hSw; go_simp <;> with_reducible rfl
  simp only [Act.put, List.setIfInBounds_toArray, List.set_cons_zero, List.set_cons_succ]
  refine Held.G_ready (rs := [5]) (by decide +kernel) (by simp) ?_
  refine Held.G_cons rfl (fun KK hK => ?_) Held.G_nil
  go_simp
  refine hK _ _ ?_
  clear hK KK
  have a5 := atb aE (al' wE (.cells #[] 9))
  refine ⟨(HSP _ a5), ?_⟩
  refine Held.G_ready (rs := [8]) (by decide +kernel) (by simp) ?_
  refine Held.G_cons rfl (fun KK hK => ?_) Held.G_nil
  obtain ⟨A', c', w8, hrun, hown, b8⟩ := copyS wE K cs.length ck cs rfl hrE (by omega)
  refine step_append_d rfl rfl (.tmp 15) (.tmp 17) 37 37 rfl (vs := .slice (some ⟨wE.heap.size, 0, none⟩) 0 0) (vx := .slice K cs.length ck) rfl rfl hrun ?_
  refine hK _ _ ?_
  clear hK KK hrun
  have a8 := atb aE b8
  have h8 := hE.more X b8
  have r8 := own_rowP (S := Plus S1 wE w8) hown fun b q1 q2 => Or.inr ⟨q1, q2⟩
  have hcall := pm_new X h8 hf z1 z2 cs A' cs.length c' rfl o1 o2 hfc r8
  refine ⟨(HSP _ a8), ?_⟩
  refine Held.G_ready (rs := [9]) (by decide +kernel) (by simp) ?_
  refine Held.G_cons rfl (fun KK hK => ?_) Held.G_nil
  go_simp
  (with_reducible refine hcall.mono ?_)
  clear hcall
  rintro e w9 ⟨rfl, h9, t9⟩
  go_simp
  refine hK _ _ ?_
  clear hK KK
  have tE := turn_plus b8 t9
  have a9 := att aE tE hbx
  refine ⟨(HSP _ a9), ?_⟩
  refine Held.G_take (i := 10) (d := 20) (v := ?_) [10, 12, 13] rfl rfl (by kernel_rfl) (by kernel_rfl) (by kernel_rfl) (by kernel_rfl) (fun _ _ _ h => h) (Or.inl ⟨by rfl, ?_⟩) (HSP _ a9) ?_
  rotate_left 1
  ·intro w hSw; clear hSw; go_simp <;> with_reducible rfl
  simp only [Act.put, List.setIfInBounds_toArray, List.set_cons_zero, List.set_cons_succ]
  refine Held.G_take (i := 11) (d := 21) (v := ?_) [11, 12, 13] rfl rfl (by kernel_rfl) (by kernel_rfl) (by kernel_rfl) (by kernel_rfl) (fun _ _ _ h => h) (Or.inl ⟨by rfl, ?_⟩) (HSP _ a9) ?_
  rotate_left 1
  ·intro w hSw; clear hSw; go_simp <;> with_reducible rfl
  simp only [Act.put, List.setIfInBounds_toArray, List.set_cons_zero, List.set_cons_succ]
  refine Held.G_take (i := 12) (d := 4) (v := ?_) [12, 13] rfl rfl (by kernel_rfl) (by kernel_rfl) (by kernel_rfl) (by kernel_rfl) (fun _ _ _ h => h) (Or.inl ⟨by rfl, ?_⟩) (HSP _ a9) ?_
  rotate_left 1
  ·intro w hSw; clear hSw; go_simp <;> with_reducible rfl
  simp only [Act.put, List.setIfInBounds_toArray, List.set_cons_zero, List.set_cons_succ]
  refine Held.G_ready (rs := [13]) (by decide +kernel) (by simp) ?_
  refine Held.G_last rfl (fun KK hK => ?_) Held.G_nil
  go_simp
  refine hK _ _ ?_
  clear hK KK
  refine Held.G_done (by kernel_rfl) ?_ _
  go_wp2_with fail
  go_ret2
  exact ⟨rfl, HL.out _ _ (h9.less (fun b hb => Or.inl hb) hE.low), HT.out _ tE⟩
 by_cases k1 : z0 = 1
 ·subst k1
  have hact : act P ⟨1, z1, z2, z3, z4, z5, cs⟩ = P.change z3 z1 z2 cs := by simp [PagerPlain.act]
  rw [hact]
  have HSP := fun (w' : World) (q : At w' bx 39 #[.int .i64 1, .int .i64 z1, .int .i64 z2, .int .i64 z3, .int .i64 z4, .int .i64 z5, .slice K cs.length ck]) => seven q
  obtain ⟨d0, d1, d2, d3, d4, d5, d6⟩ := HSP _ a1
  go_upto_region 5 with fail
  try rw [← HW.out]
  try rw [hbe]
  clear d0 d1 d2 d3 d4 d5 d6 hbe
  have bE : Below w1.heap.size w1 w1.drew := (Below.refl _ _).drew
  have hE := h1.below X bE
  have aE := atb a1 bE
  have hrE : Row w1.drew w1.drew.heap.size K (strs cs) := hr1.belowSize bE
  have HT := Lib.hid (show ∀ w', Turn (Not S1) w1.drew w' → Turn (Not S) w w' from fun w' q => HT.out w' ((Turn.ofBelow bE).step q))
  clear h1 a1 hr1 HW bE
  refine wp_region_any (by kernel_rfl) ?_
  change wpAny _ _ _ _ _ _ _ (World.drew _)
  generalize World.drew w1 = wE at hE aE hrE HT ⊢
  refine Held.any_of_G (S := (fun w' : World => w'.cell? ⟨bx, 0, none⟩ = some (.int .i64 1) ∧ w'.cell? ⟨bx, 1, none⟩ = some (.int .i64 z1) ∧ w'.cell? ⟨bx, 2, none⟩ = some (.int .i64 z2) ∧ w'.cell? ⟨bx, 3, none⟩ = some (.int .i64 z3) ∧ w'.cell? ⟨bx, 4, none⟩ = some (.int .i64 z4) ∧ w'.cell? ⟨bx, 5, none⟩ = some (.int .i64 z5) ∧ w'.cell? ⟨bx, 6, none⟩ = some (.slice K cs.length ck))) (z := 15) _ _ _ _ ?_
  refine Held.G_take (i := 0) (d := 24) (v := ?_) [0, 11, 12, 13, 14, 15] rfl rfl (by kernel_rfl) (by kernel_rfl) (by kernel_rfl) (by kernel_rfl) (fun _ _ _ h => h) (Or.inl ⟨by rfl, ?_⟩) (HSP _ aE) ?_
  rotate_left 1
  ·intro w hSw; clear hSw; go_simp <;> with_reducible rfl
  simp only [Act.put, List.setIfInBounds_toArray, List.set_cons_zero, List.set_cons_succ]
  refine Held.G_take (i := 1) (d := 25) (v := ?_) [1, 2, 11, 12, 13, 14, 15] rfl rfl (by kernel_rfl) (by kernel_rfl) (by kernel_rfl) (by kernel_rfl) (fun _ _ _ h => h) (Or.inl ⟨by rfl, ?_⟩) (HSP _ aE) ?_
  rotate_left 1
  ·intro w hSw; clear hSw; go_simp <;> with_reducible rfl
  simp only [Act.put, List.setIfInBounds_toArray, List.set_cons_zero, List.set_cons_succ]
  refine Held.G_take (i := 2) (d := 26) (v := ?_) [2, 11, 12, 13, 14, 15] rfl rfl (by kernel_rfl) (by kernel_rfl) (by kernel_rfl) (by kernel_rfl) (fun _ _ _ h => h) (Or.inl ⟨by rfl, ?_⟩) (HSP _ aE) ?_
  rotate_left 1
  ·intro w hSw; obtain ⟨h0, h1, h2, h3, h4, h5, h6⟩ := hSw; go_simp <;> with_reducible rfl
  simp only [Act.put, List.setIfInBounds_toArray, List.set_cons_zero, List.set_cons_succ]
  refine Held.G_take (i := 3) (d := 27) (v := ?_) [3, 4, 11, 12, 13, 14, 15] rfl rfl (by kernel_rfl) (by kernel_rfl) (by kernel_rfl) (by kernel_rfl) (fun _ _ _ h => h) (Or.inl ⟨by rfl, ?_⟩) (HSP _ aE) ?_
  rotate_left 1
  ·intro w hSw; clear hSw; go_simp <;> with_reducible rfl
  simp only [Act.put, List.setIfInBounds_toArray, List.set_cons_zero, List.set_cons_succ]
  refine Held.G_take (i := 4) (d := 28) (v := ?_) [4, 11, 12, 13, 14, 15] rfl rfl (by kernel_rfl) (by kernel_rfl) (by kernel_rfl) (by kernel_rfl) (fun _ _ _ h => h) (Or.inl ⟨by rfl, ?_⟩) (HSP _ aE) ?_
  rotate_left 1
  ·intro w hSw; obtain ⟨h0, h1, h2, h3, h4, h5, h6⟩ := hSw; go_simp <;> with_reducible rfl
  simp only [Act.put, List.setIfInBounds_toArray, List.set_cons_zero, List.set_cons_succ]
  refine Held.G_take (i := 5) (d := 29) (v := ?_) [5, 6, 11, 12, 13, 14, 15] rfl rfl (by kernel_rfl) (by kernel_rfl) (by kernel_rfl) (by kernel_rfl) (fun _ _ _ h => h) (Or.inl ⟨by rfl, ?_⟩) (HSP _ aE) ?_
  rotate_left 1
  ·intro w hSw; clear hSw; go_simp <;> with_reducible rfl
  simp only [Act.put, List.setIfInBounds_toArray, List.set_cons_zero, List.set_cons_succ]
  refine Held.G_take (i := 6) (d := 30) (v := ?_) [6, 11, 12, 13, 14, 15] rfl rfl (by kernel_rfl) (by kernel_rfl) (by kernel_rfl) (by kernel_rfl) (fun _ _ _ h => h) (Or.inl ⟨by rfl, ?_⟩) (HSP _ aE) ?_
  rotate_left 1
  ·intro w hSw; obtain ⟨h0, h1, h2, h3, h4, h5, h6⟩ := hSw; go_simp <;> with_reducible rfl
  simp only [Act.put, List.setIfInBounds_toArray, List.set_cons_zero, List.set_cons_succ]
  refine Held.G_take (i := 8) (d := 32) (v := ?_) [8, 9, 10, 11, 12, 13, 14, 15] rfl rfl (by kernel_rfl) (by kernel_rfl) (by kernel_rfl) (by kernel_rfl) (fun _ _ _ h => h) (Or.inl ⟨by rfl, ?_⟩) (HSP _ aE) ?_
  rotate_left 1
  ·intro w hSw; clear hSw; go_simp <;> with_reducible rfl
  simp only [Act.put, List.setIfInBounds_toArray, List.set_cons_zero, List.set_cons_succ]
  refine Held.G_take (i := 9) (d := 33) (v := ?_) [9, 10, 11, 12, 13, 14, 15] rfl rfl (by kernel_rfl) (by kernel_rfl) (by kernel_rfl) (by kernel_rfl) (fun _ _ _ h => h) (Or.inl ⟨by rfl, ?_⟩) (HSP _ aE) ?_
  rotate_left 1
  ·intro w hSw; obtain ⟨h0, h1, h2, h3, h4, h5, h6⟩ := hSw; go_simp <;> with_reducible rfl
  simp only [Act.put, List.setIfInBounds_toArray, List.set_cons_zero, List.set_cons_succ]
  refine Held.G_ready (rs := [7]) (by decide +kernel) (by simp) ?_
  refine Held.G_cons rfl (fun KK hK => ?_) Held.G_nil
  go_simp
  refine hK _ _ ?_
  clear hK KK
  have a5 := atb aE (al' wE (.cells #[] 9))
  refine ⟨(HSP _ a5), ?_⟩
  refine Held.G_ready (rs := [10]) (by decide +kernel) (by simp) ?_
  refine Held.G_cons rfl (fun KK hK => ?_) Held.G_nil
  obtain ⟨A', c', w8, hrun, hown, b8⟩ := copyS wE K cs.length ck cs rfl hrE (by omega)
  refine step_append_d rfl rfl (.tmp 31) (.tmp 33) 37 37 rfl (vs := .slice (some ⟨wE.heap.size, 0, none⟩) 0 0) (vx := .slice K cs.length ck) rfl rfl hrun ?_
  refine hK _ _ ?_
  clear hK KK hrun
  have a8 := atb aE b8
  have h8 := hE.more X b8
  have r8 := own_rowP (S := Plus S1 wE w8) hown fun b q1 q2 => Or.inr ⟨q1, q2⟩
  have hcall := pm_change X h8 hf z3 z1 z2 cs A' cs.length c' rfl o3 o1 o2 hfc r8
  refine ⟨(HSP _ a8), ?_⟩
  refine Held.G_ready (rs := [11]) (by decide +kernel) (by simp) ?_
  refine Held.G_cons rfl (fun KK hK => ?_) Held.G_nil
  go_simp
  (with_reducible refine hcall.mono ?_)
  clear hcall
  rintro e w9 ⟨rfl, h9, t9⟩
  go_simp
  refine hK _ _ ?_
  clear hK KK
  have tE := turn_plus b8 t9
  have a9 := att aE tE hbx
  refine ⟨(HSP _ a9), ?_⟩
  refine Held.G_take (i := 12) (d := 36) (v := ?_) [12, 14, 15] rfl rfl (by kernel_rfl) (by kernel_rfl) (by kernel_rfl) (by kernel_rfl) (fun _ _ _ h => h) (Or.inl ⟨by rfl, ?_⟩) (HSP _ a9) ?_
  rotate_left 1
  ·intro w hSw; clear hSw; go_simp <;> with_reducible rfl
  simp only [Act.put, List.setIfInBounds_toArray, List.set_cons_zero, List.set_cons_succ]
  refine Held.G_take (i := 13) (d := 37) (v := ?_) [13, 14, 15] rfl rfl (by kernel_rfl) (by kernel_rfl) (by kernel_rfl) (by kernel_rfl) (fun _ _ _ h => h) (Or.inl ⟨by rfl, ?_⟩) (HSP _ a9) ?_
  rotate_left 1
  ·intro w hSw; clear hSw; go_simp <;> with_reducible rfl
  simp only [Act.put, List.setIfInBounds_toArray, List.set_cons_zero, List.set_cons_succ]
  refine Held.G_take (i := 14) (d := 4) (v := ?_) [14, 15] rfl rfl (by kernel_rfl) (by kernel_rfl) (by kernel_rfl) (by kernel_rfl) (fun _ _ _ h => h) (Or.inl ⟨by rfl, ?_⟩) (HSP _ a9) ?_
  rotate_left 1
  ·intro w hSw; clear hSw; go_simp <;> with_reducible rfl
  simp only [Act.put, List.setIfInBounds_toArray, List.set_cons_zero, List.set_cons_succ]
  refine Held.G_ready (rs := [15]) (by decide +kernel) (by simp) ?_
  refine Held.G_last rfl (fun KK hK => ?_) Held.G_nil
  go_simp
  refine hK _ _ ?_
  clear hK KK
  refine Held.G_done (by kernel_rfl) ?_ _
  go_wp2_with fail
  go_ret2
  exact ⟨rfl, HL.out _ _ (h9.less (fun b hb => Or.inl hb) hE.low), HT.out _ tE⟩
 obtain ⟨d0, d1, d2, d3, d4, d5, d6⟩ := seven a1
 by_cases k2 : z0 = 2
 ·subst k2
  have hact : act P ⟨2, z1, z2, z3, z4, z5, cs⟩ = ((P.drop z3).1, 0, (P.drop z3).2) := by simp [PagerPlain.act]
  rw [hact]
  have hcall := pm_drop X h1 hf z3 o3
  go_upto_region 1 with fail
  try rw [← HW.out]
  try rw [hbe]
  clear hbe
  go_wp2_with fail
  (with_reducible refine hcall.mono ?_)
  clear hcall d0 d1 d2 d3 d4 d5 d6
  rintro e w9 ⟨rfl, h9, t9⟩
  go_wp2_with fail
  go_ret2
  exact ⟨rfl, HL.out _ _ h9, HT.out _ t9⟩
 by_cases k3 : z0 = 3
 ·subst k3
  have hact : act P ⟨3, z1, z2, z3, z4, z5, cs⟩ = ((P.commit z4).1, 0, (P.commit z4).2) := by simp [PagerPlain.act]
  rw [hact]
  have hcall := pm_commit X h1 hf z4 o4
  go_upto_region 1 with fail
  try rw [← HW.out]
  try rw [hbe]
  clear hbe
  go_wp2_with fail
  (with_reducible refine hcall.mono ?_)
  clear hcall d0 d1 d2 d3 d4 d5 d6
  rintro e w9 ⟨rfl, h9, t9⟩
  go_wp2_with fail
  go_ret2
  exact ⟨rfl, HL.out _ _ h9, HT.out _ t9⟩
 by_cases k4 : z0 = 4
 ·subst k4
  have hact : act P ⟨4, z1, z2, z3, z4, z5, cs⟩ = (P.abort, 0, 0) := by simp [PagerPlain.act]
  rw [hact]
  have hcall := pm_abort X h1 hf
  go_upto_region 1 with fail
  try rw [← HW.out]
  try rw [hbe]
  clear hbe
  go_wp2_with fail
  (with_reducible refine hcall.mono ?_)
  clear hcall d0 d1 d2 d3 d4 d5 d6
  rintro e w9 ⟨rfl, h9, t9⟩
  go_wp2_with fail
  go_ret2
  exact ⟨rfl, HL.out _ _ h9, HT.out _ t9⟩
 by_cases k5 : z0 = 5
 ·subst k5
  have hact : act P ⟨5, z1, z2, z3, z4, z5, cs⟩ = ({ P with od := min z5 P.x.ep }, 0, 0) := by simp [PagerPlain.act]
  rw [hact]
  have hcall := pm_oldest X h1 hf z5 o5
  go_upto_region 1 with fail
  try rw [← HW.out]
  try rw [hbe]
  clear hbe
  go_wp2_with fail
  (with_reducible refine hcall.mono ?_)
  clear hcall d0 d1 d2 d3 d4 d5 d6
  rintro e w9 ⟨rfl, h9, t9⟩
  go_wp2_with fail
  go_ret2
  exact ⟨rfl, HL.out _ _ h9, HT.out _ t9⟩
 ·have hact : act P ⟨z0, z1, z2, z3, z4, z5, cs⟩ = (P, 0, 0) := by simp [PagerPlain.act, k0, k1, k2, k3, k4, k5]
  rw [hact]
  have H1 := Lib.hid (h1.up X (show m ≤ m + 1000000 by omega))
  go_upto_region 1 with fail
  try rw [← HW.out]
  try rw [hbe]
  clear hbe
  go_wp2_with fail
  go_ret2
  exact ⟨rfl, HL.out _ _ H1.out, HT.out _ (Turn.refl _ _)⟩
end Go.Proofs.YtpidnkfcccboaaaGreat.PagerDo
namespace Go.Proofs.YtpidnkfcccboaaaGreat.PagerAwake
open Go.RowKit Base PagePlain PageSmall FreePlain FreeMem SuperPlain SuperRefCheck PagerPlain PagerTold PagerNum PagerSpec PagerPlumb PagerLaw PagerDo DiskMem

def Law (W : World) (e : Ending) (w' : World) : Prop := e = .returned (.bool true) ∧ Below W.heap.size W w'
abbrev sx : ByteArray := ⟨#[120]⟩
abbrev sy : ByteArray := ⟨#[121]⟩
def P0 : PS := freshP 20
def P1 : PS := (P0.new 1 0 [sx]).1
def P2 : PS := (P1.commit 2).1
def P3 : PS := (P2.change 2 1 0 [sy]).1
def P4 : PS := (P3.commit 3).1
theorem v1 : (P0.new 1 0 [sx]).2.1 = 2 ∧ (P0.new 1 0 [sx]).2.2 = 0 := by decide +kernel
theorem v2 : (P1.commit 2).2 = 0 ∧ P2.x.ep = 2 ∧ P2.x.root = 2 := by decide +kernel
theorem v3 : (P2.change 2 1 0 [sy]).2.1 = 3 ∧ (P2.change 2 1 0 [sy]).2.2 = 0 := by decide +kernel
theorem v4 : (P3.commit 3).2 = 0 ∧ P4.x.root = 3 ∧ P4.fl = [(2, 3)] ∧ P4.ch = [4] ∧ P4.pg = 5 := by decide +kernel
theorem v5 : rdP P4 3 = .inr ⟨1, 3, 3, 0, [sy]⟩ :=
 read_page (P := P4) (q := ⟨1, 3, 3, 0, [sy]⟩) (by decide +kernel) (by decide +kernel) (by decide +kernel) (by decide +kernel)
theorem f0 : Fine P0 1000000 := fine_fresh (by omega) (by omega)
theorem f1 : Fine P1 2000000 := fine_act (P := P0) f0 ⟨0, 1, 0, 0, 0, 0, [sx]⟩ (by decide +kernel) (by omega)
theorem f2 : Fine P2 3000000 := fine_act (P := P1) f1 ⟨3, 0, 0, 0, 2, 0, []⟩ (by decide +kernel) (by omega)
theorem f3 : Fine P3 4000000 := fine_act (P := P2) f2 ⟨1, 1, 0, 2, 0, 0, [sy]⟩ (by decide +kernel) (by omega)
theorem f4 : Fine P4 5000000 := fine_act (P := P3) f3 ⟨3, 0, 0, 0, 3, 0, []⟩ (by decide +kernel) (by omega)
/-- from a fresh one on -/
theorem pm_fresh {M : Mem} {W w : World} {p d : Nat} {P : PS} {F : Blks} {m : Int} (h : M w p d P F m) (hF : ∀ b, F b → W.heap.size ≤ b) (hb : Below W.heap.size W w) : PM M W w p d P m (fun b => b < W.heap.size) :=
 ⟨⟨F, h, fun b h1 h2 => by have := hF b h1; omega⟩, fun _ h => h, fun _ h => Nat.lt_of_lt_of_le h hb.size, hb⟩
theorem one_str (w : World) (s : ByteArray) (S : Blks) : RowP (w.alloc (.cells #[.string s] 9)) (Plus S w (w.alloc (.cells #[.string s] 9))) (some ⟨w.heap.size, 0, none⟩) (strs [s]) := fun k v hv => by
 have h : At (w.alloc (.cells #[.string s] 9)) w.heap.size 9 #[.string s] := heap_alloc_new w _
 refine ⟨_, rfl, Or.inr ⟨Nat.le_refl _, h.lt⟩, h.lt, ?_⟩
 have e : (⟨w.heap.size, 0, none⟩ : Addr).add k = ⟨w.heap.size, k, none⟩ := by unfold Addr.add; split <;> simp_all
 rw [e, h.cell]
 simpa [strs] using hv
theorem fewC_one (s : ByteArray) (h : s.size ≤ 300) : FewC [s] := ⟨by simp, fun q hq => by rw [List.mem_singleton.1 hq]; exact h⟩
theorem four_at {w : World} {g : Nat} {t : TypeId} {a b c d : Value} (q : At w g t #[a, b, c, d]) : w.cell? ⟨g, 0, none⟩ = some a ∧ w.cell? ⟨g, 1, none⟩ = some b ∧ w.cell? ⟨g, 2, none⟩ = some c ∧ w.cell? ⟨g, 3, none⟩ = some d :=
 ⟨by rw [q.cell]; rfl, by rw [q.cell]; rfl, by rw [q.cell]; rfl, by rw [q.cell]; rfl⟩
theorem five_at {w : World} {g : Nat} {t : TypeId} {a b c d e : Value} (q : At w g t #[a, b, c, d, e]) : w.cell? ⟨g, 0, none⟩ = some a ∧ w.cell? ⟨g, 1, none⟩ = some b ∧ w.cell? ⟨g, 2, none⟩ = some c ∧ w.cell? ⟨g, 3, none⟩ = some d ∧ w.cell? ⟨g, 4, none⟩ = some e :=
 ⟨by rw [q.cell]; rfl, by rw [q.cell]; rfl, by rw [q.cell]; rfl, by rw [q.cell]; rfl, by rw [q.cell]; rfl⟩
theorem addz (a : Addr) : a.add 0 = a := by
 obtain ⟨b, o, sp⟩ := a
 cases sp <;> simp [Addr.add]
theorem fld0 (x : Sp) : ∀ w : World, (Instr.field 29 (.agg #[.int .i64 x.ep, .int .i64 x.root, .int .i64 x.free, .int .i64 x.pages]) 0).run Tryz.prog w = .ok (.int .i64 x.ep) w := fun _ => by kernel_rfl
theorem fld1 (x : Sp) : ∀ w : World, (Instr.field 29 (.agg #[.int .i64 x.ep, .int .i64 x.root, .int .i64 x.free, .int .i64 x.pages]) 1).run Tryz.prog w = .ok (.int .i64 x.root) w := fun _ => by kernel_rfl
section
variable {M : Mem} (X : Specs M) {W w : World} {p d : Nat} {P : PS} {m : Int} {S : Blks}
include X
theorem pm_read (h : PM M W w p d P m S) (hf : Fine P m) (no : Int) (hn : In no) : Calls Tryz.prog 25 #[.pointer (some ⟨p, 0, none⟩), .int .i64 no] w fun e w' => ∃ N : Blks, PM M W w' p d P (m + 1000) (fun b => S b ∨ N b) ∧ Turn (Not S) w w' ∧ match rdP P no with
  | .inl k => e = .returned (.tuple #[nopV, .int .i64 k])
  | .inr q => ∃ A c, e = .returned (.tuple #[pv q A c, .int .i64 0]) ∧ RowP w' N A (strs q.cells) := by
 obtain ⟨F, h1, h2⟩ := h.mem
 exact (X.read no h1 hf hn).mono fun e w' ⟨N, g, r⟩ => ⟨N, (h.gone h2 g).1, (h.gone h2 g).2, r⟩
end
set_option maxRecDepth 100000 in
set_option maxHeartbeats 12800000 in
theorem awake_any {M : Mem} (X : Specs M) (W : World) : Calls Tryz.prog 9 #[] W (Law W) := by
 unfold Law
 have hcall := X.fresh W 20 (by omega) (by omega)
 go_enter Tryz.func9, Tryz.ntmps9
 go_wp2_with fail
 (with_reducible refine hcall.mono ?_)
 clear hcall
 rintro e w1 ⟨p, d, F, rfl, hm, hF, hb⟩
 have h1 : PM M W w1 p d P0 1000000 (fun b => b < W.heap.size) := pm_fresh hm hF hb
 clear hm hF hb
 have hcall := pm_super X h1
 go_wp2_with fail
 (with_reducible refine hcall.mono ?_)
 clear hcall
 rintro e w2 ⟨rfl, b2⟩
 have h2 := h1.below X b2
 clear h1 b2
 have e1 : (P0.x.ep != 1) = false := by decide
 have hfd := fld0 P0.x
 obtain ⟨w3, hw3⟩ : ∃ v, v = w2.alloc (.cells #[.string sx] 9) := ⟨_, rfl⟩
 have r3 : RowP w3 (Plus (fun b => b < W.heap.size) w2 w3) (some ⟨w2.heap.size, 0, none⟩) (strs [sx]) := by rw [hw3]; exact one_str w2 sx _
 have h3 : PM M W w3 p d P0 1000000 (Plus (fun b => b < W.heap.size) w2 w3) := h2.more X (by rw [hw3]; exact al' _ _)
 have hcall := pm_new X h3 f0 1 0 [sx] (some ⟨w2.heap.size, 0, none⟩) 1 1 rfl (by unfold In; omega) (by unfold In; omega) (fewC_one sx (by decide)) r3
 rw [v1.1, v1.2] at hcall
 have HW3 := Lib.hid hw3
 clear hw3 h2 r3
 go_wp2_with fail
 try rw [← HW3.out]
 (with_reducible refine hcall.mono ?_)
 clear hcall
 rintro e w4 ⟨rfl, h4, _⟩
 have h4 : PM M W w4 p d P1 2000000 (fun b => b < W.heap.size) := (show PM M W w4 p d P1 2000000 _ from h4).less (fun b hb => Or.inl hb) fun _ h => h
 clear h3 HW3
 have hcall := pm_commit X h4 f1 2 (by unfold In; omega)
 rw [v2.1] at hcall
 go_wp2_with fail
 (with_reducible refine hcall.mono ?_)
 clear hcall
 rintro e w5 ⟨rfl, h5, _⟩
 have h5 : PM M W w5 p d P2 3000000 (fun b => b < W.heap.size) := h5
 clear h4
 have hcall := pm_super X h5
 go_wp2_with fail
 (with_reducible refine hcall.mono ?_)
 clear hcall
 rintro e w6 ⟨rfl, b6⟩
 have h6 := h5.below X b6
 clear h5 b6
 obtain ⟨w7, hw7⟩ : ∃ v, v = w6.alloc (.cells #[.int .i64 P2.x.ep, .int .i64 P2.x.root, .int .i64 P2.x.free, .int .i64 P2.x.pages] 29) := ⟨_, rfl⟩
 have b7 : Below w6.heap.size w6 w7 := by rw [hw7]; exact al' _ _
 have x7 : At w7 w6.heap.size 29 #[.int .i64 P2.x.ep, .int .i64 P2.x.root, .int .i64 P2.x.free, .int .i64 P2.x.pages] := by rw [hw7]; exact heap_alloc_new w6 _
 have h7 := h6.more X b7
 have hxs : Plus (fun b => b < W.heap.size) w6 w7 w6.heap.size := Or.inr ⟨Nat.le_refl _, x7.lt⟩
 have hlow := h7.low
 generalize Plus (fun b => b < W.heap.size) w6 w7 = S7 at h7 hxs hlow
 have HW7 := Lib.hid hw7
 clear hw7 h6 b7
 generalize hbx : w6.heap.size = bx at x7 hxs
 obtain ⟨w8, hw8⟩ : ∃ v, v = w7.alloc (.cells #[.string sy] 9) := ⟨_, rfl⟩
 have b8 : Below w7.heap.size w7 w8 := by rw [hw8]; exact al' _ _
 have r8 : RowP w8 (Plus S7 w7 w8) (some ⟨w7.heap.size, 0, none⟩) (strs [sy]) := by rw [hw8]; exact one_str w7 sy _
 have h8 := h7.more X b8
 have x8 := atb x7 b8
 have hcall := pm_change X h8 f2 2 1 0 [sy] (some ⟨w7.heap.size, 0, none⟩) 1 1 rfl (by unfold In; omega) (by unfold In; omega) (by unfold In; omega) (fewC_one sy (by decide)) r8
 rw [v3.1, v3.2] at hcall
 have HW8 := Lib.hid hw8
 clear hw8 h7 r8 b8 x7
 go_upto_region 7 with fail
 try rw [← HW7.out]
 try rw [hbx]
 clear hbx HW7
 go_wp2_with fail
 try rw [← HW8.out]
 (with_reducible refine hcall.mono ?_)
 clear hcall
 rintro e w9 ⟨rfl, h9, t9⟩
 have h9 : PM M W w9 p d P3 4000000 S7 := (show PM M W w9 p d P3 4000000 _ from h9).less (fun b hb => Or.inl hb) hlow
 have x9 := att x8 t9 (Or.inl hxs)
 clear h8 x8 t9 HW8
 have hcall := pm_commit X h9 f3 3 (by unfold In; omega)
 rw [v4.1] at hcall
 go_wp2_with fail
 (with_reducible refine hcall.mono ?_)
 clear hcall
 rintro e wa ⟨rfl, ha, ta⟩
 have ha : PM M W wa p d P4 5000000 S7 := ha
 have xa := att x9 ta hxs
 clear h9 x9 ta
 have hcall := pm_free X ha f4
 rw [v4.2.2.1] at hcall
 go_wp2_with fail
 (with_reducible refine hcall.mono ?_)
 clear hcall
 rintro e wb ⟨A, c, rfl, bb, hb, rb⟩
 have xb := atb xa bb
 have hxb : Plus S7 wa wb bx := Or.inl hxs
 clear ha xa bb
 generalize Plus S7 wa wb = Sb at hb rb hxb
 have hcall := pm_read X hb f4 3 (by unfold In; omega)
 rw [v5] at hcall
 simp only at hcall
 go_wp2_with fail
 (with_reducible refine hcall.mono ?_)
 clear hcall
 rintro e wc ⟨N, hc, tc, B, k, rfl, rc⟩
 have xc := att xb tc hxb
 have rlc := rb.turn tc fun _ q z => z q
 have rqc := rc
 clear hb xb rb tc rc
 obtain ⟨wd, hwd⟩ : ∃ v, v = wc.alloc (.cells #[.int .i64 1, .int .i64 3, .int .i64 3, .int .i64 0, .slice B 1 k] 69) := ⟨_, rfl⟩
 have bd : Below wc.heap.size wc wd := by rw [hwd]; exact al' _ _
 have qd : At wd wc.heap.size 69 #[.int .i64 1, .int .i64 3, .int .i64 3, .int .i64 0, .slice B 1 k] := by rw [hwd]; exact heap_alloc_new wc _
 have hd := hc.below X bd
 have xd := atb xc bd
 have rld := rlc.below bd
 have rqd := rqc.below bd
 have HWD := Lib.hid hwd
 clear hwd hc xc rlc rqc bd
 generalize hbq : wc.heap.size = bq at qd
 have e2 : (P2.x.ep == 2) = true := by rw [v2.2.1]; rfl
 have e3 : (P2.x.root == 2) = true := by rw [v2.2.2]; rfl
 have e4 : (P4.x.root == 3) = true := by rw [v4.2.1]; rfl
 have hfd4 := fld1 P4.x
 have hcall := pm_super X hd
 obtain ⟨x0, x1, x2, x3⟩ := four_at xd
 have HR := Lib.hid (And.intro rld (And.intro rqd qd))
 clear rld rqd xd qd hfd e1
 go_upto_region 11 with fail
 try rw [← HWD.out]
 try rw [hbq]
 clear hbq HWD
 go_wp2_with fail
 (with_reducible refine hcall.mono ?_)
 clear hcall x0 x1 x2 x3 e2 e3
 rintro e we ⟨rfl, be⟩
 have he := hd.below X be
 have rle := HR.out.1.below be
 have rqe := HR.out.2.1.below be
 obtain ⟨q0, q1, q2, q3, q4⟩ := five_at (atb HR.out.2.2 be)
 clear HR hd be
 obtain ⟨ad, hA, _, l0, l1⟩ := row_at (l := [(2, 3)]) rle.row 0 (by simp)
 subst hA
 obtain ⟨bd, hB, _, s0⟩ := strs_get (cs := [sy]) rqe.row 0 (by simp)
 subst hB
 simp only [List.getElem_cons_zero, Nat.zero_mul, addz] at l0 l1 s0
 have hcall := pm_chain X he (fine_read f4 (by omega))
 rw [v4.2.2.2.1] at hcall
 clear rle rqe
 go_wp2_with fail
 (with_reducible refine hcall.mono ?_)
 clear hcall q0 q1 q2 q3 q4 l0 l1 s0
 rintro e wf ⟨A2, c2, rfl, _, hf, _⟩
 have hcall := pm_pages X hf
 rw [v4.2.2.2.2] at hcall
 go_wp2_with fail
 (with_reducible refine hcall.mono ?_)
 clear hcall
 rintro e wg ⟨rfl, bg⟩
 have hg := hf.below X bg
 go_wp2_with fail
 go_ret
 exact ⟨rfl, hg.base⟩
end Go.Proofs.YtpidnkfcccboaaaGreat.PagerAwake
namespace Go.Proofs.YtpidnkfcccboaaaGreat.PagerRun
open Go.RowKit Base PagePlain PageSmall FreePlain FreeMem SuperPlain SuperRefCheck PagerPlain PagerTold PagerNum PagerSpec PagerPlumb PagerLaw PagerDo PagerAwake DiskMem

theorem idx_acts {A : Option Addr} {ab ao n c j : Nat} (hA : A = some ⟨ab, ao, none⟩) (hj : j < n) (w : World) : (Instr.indexAt 22 (.slice A n c) (.int .i64 (j : Int))).run Tryz.prog w = .ok (.pointer (some ⟨ab, ao + j * 7, none⟩)) w := by
 subst hA
 have h2 : (j : Int) < n := by omega
 go_simp
/-- behind so many acts: what it is now; since w0 nothing of S has turned -/
def Run (M : Mem) (W w0 w : World) (p d : Nat) (S : Blks) (q : Int) (k : Nat) (R : PS → Prop) : Prop := ∃ P m, PM M W w p d P m S ∧ Fine P m ∧ m ≤ 1000000 * ((k : Int) + q) ∧ P.x.ep ≤ (k : Int) + q ∧ R P ∧ Turn (Not S) w0 w
section
variable {M : Mem} (X : Specs M) {W w0 w w' : World} {p d : Nat} {S : Blks} {q : Int} {k : Nat} {R R' : PS → Prop}
theorem Run.base (h : Run M W w0 w p d S q k R) : Below W.heap.size W w := by
 obtain ⟨P, m, h1, _⟩ := h
 exact h1.base
include X in
theorem Run.skip (h : Run M W w0 w p d S q k R) (hb : Below w.heap.size w w') (hR : ∀ P, R P → R' P) : Run M W w0 w' p d S q (k + 1) R' := by
 obtain ⟨P, m, h1, h2, h3, h4, h5, h6⟩ := h
 exact ⟨P, m, h1.below X hb, h2, by omega, by omega, hR P h5, h6.step (Turn.ofBelow hb)⟩
theorem run_do {P : PS} {m : Int} {x : PA} (h : PM M W w' p d (act P x).1 (m + 1000000) S) (ht : Turn (Not S) w w') (h0 : Turn (Not S) w0 w) (hf : Fine P m) (hm : m ≤ 1000000 * ((k : Int) + q)) (he : P.x.ep ≤ (k : Int) + q) (hk : k ≤ 300) (hq : q ≤ 300) (hR : R' (act P x).1) : Run M W w0 w' p d S q (k + 1) R' := by
 have := ep_act hf.inv x
 exact ⟨_, _, h, fine_act hf x (by omega) (by omega), by omega, by omega, hR, h0.step ht⟩
end
/-- an act's cells, where the law loads it -/
structure ActAt (w : World) (A : Option Addr) (xs : List PA) (k : Nat) (x : PA) (ab ao : Nat) (K : Option Addr) (ck : Nat) : Prop where
 hA : A = some ⟨ab, ao, none⟩
 c0 : w.cell? ⟨ab, ao + k * 7, none⟩ = some (.int .i64 x.kind)
 c1 : w.cell? ⟨ab, ao + k * 7 + 1, none⟩ = some (.int .i64 x.of)
 c2 : w.cell? ⟨ab, ao + k * 7 + 2, none⟩ = some (.int .i64 x.link)
 c3 : w.cell? ⟨ab, ao + k * 7 + 3, none⟩ = some (.int .i64 x.no)
 c4 : w.cell? ⟨ab, ao + k * 7 + 4, none⟩ = some (.int .i64 x.root)
 c5 : w.cell? ⟨ab, ao + k * 7 + 5, none⟩ = some (.int .i64 x.ep)
 c6 : w.cell? ⟨ab, ao + k * 7 + 6, none⟩ = some (.slice K x.cells.length ck)
 row : Row w w.heap.size K (strs x.cells)
 ok : ActOk x
theorem Acts.at {W w : World} {A : Option Addr} {xs : List PA} (h : Acts W A xs) (hb : Below W.heap.size W w) {k : Nat} {x : PA} (hx : xs[k]? = some x) : ∃ ab ao K ck, ActAt w A xs k x ab ao K ck := by
 obtain ⟨h1, ab, ao, K, ck, h2, h3, h4, h5⟩ := (h.below hb) k x hx
 exact ⟨ab, ao, K, ck, h2, by simpa using h4 0 _ rfl, h4 1 _ rfl, h4 2 _ rfl, h4 3 _ rfl, h4 4 _ rfl, h4 5 _ rfl, h4 6 _ rfl, h5, h1⟩
theorem ActAt.below {w w' : World} {A : Option Addr} {xs : List PA} {k : Nat} {x : PA} {ab ao : Nat} {K : Option Addr} {ck : Nat} (h : ActAt w A xs k x ab ao K ck) (hb : Below w.heap.size w w') : ActAt w' A xs k x ab ao K ck := by
 have hlt : ab < w.heap.size := World.block_lt_of_cell? w _ h.c0
 have hc : ∀ j v, w.cell? ⟨ab, j, none⟩ = some v → w'.cell? ⟨ab, j, none⟩ = some v := fun j v q => (hb.cell (p := ⟨ab, j, none⟩) hlt).trans q
 exact ⟨h.hA, hc _ _ h.c0, hc _ _ h.c1, hc _ _ h.c2, hc _ _ h.c3, hc _ _ h.c4, hc _ _ h.c5, hc _ _ h.c6, h.row.belowSize hb, h.ok⟩
/-- the law writes what is its own -/
theorem pm_own {M : Mem} (X : Specs M) {W w w' : World} {p d : Nat} {P : PS} {m : Int} {S G : Blks} (h : PM M W w p d P m S) (t : Turn G w w') (hG : ∀ b, b < w.heap.size → G b → S b ∧ W.heap.size ≤ b) : PM M W w' p d P m (Plus S w w') := by
 obtain ⟨⟨F, h1, h2⟩, h3, h4, h5⟩ := h
 have t' : Turn (fun b => S b ∧ W.heap.size ≤ b) w w' := t.mono fun b hb hg => hG b hb hg
 refine ⟨⟨F, X.keep h1 t' fun b hb hs => h2 b hb hs.1, fun b hF hS => ?_⟩, fun b hbw => Or.inl (h3 b hbw), fun b hs => ?_, t'.belowOf h5 h5.size fun b hb => hb.2⟩
 ·rcases hS with hS | hS
  ·exact h2 b hF hS
  ·have := X.lt h1 b hF; omega
 ·rcases hs with hs | hs
  ·exact Nat.lt_of_lt_of_le (h4 b hs) t.size
  ·exact hs.2
theorem own_same {w w' : World} {B c : Nat} {e : TypeId} {A : Option Addr} {xs : List Value} (h : Own w B e A c xs) (hs : ∀ k, (Value.slice A xs.length c).ownBlock = some k → w'.heap[k]? = w.heap[k]?) : Own w' B e A c xs := by
 refine ⟨h.1, ?_⟩
 rcases h.2 with hn | ⟨g, cap, cur, h1, hb, h2, r⟩
 ·exact .inl hn
 ·refine .inr ⟨g, cap, cur, h1, hb, ?_, r⟩
  rw [hs g (by rw [h1]; rfl)]
  exact h2
theorem own_turn {w w' : World} {B c : Nat} {e : TypeId} {A : Option Addr} {xs : List Value} {G : Blks} (h : Own w B e A c xs) (t : Turn G w w') (hs : ∀ k, (Value.slice A xs.length c).ownBlock = some k → ¬ G k) : Own w' B e A c xs :=
 own_same h fun k hk => t.block k (h.block k hk).2 (hs k hk)
end Go.Proofs.YtpidnkfcccboaaaGreat.PagerRun
namespace Go.Proofs.YtpidnkfcccboaaaGreat.PagerSame
open Go.RowKit Base PagerSpec

theorem intsV_len (l : List Int) : (intsV l).length = l.length := by simp [intsV]
end Go.Proofs.YtpidnkfcccboaaaGreat.PagerSame
