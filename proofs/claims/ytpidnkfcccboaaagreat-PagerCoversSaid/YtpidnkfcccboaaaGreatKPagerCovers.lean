/- The walk of PagerCovers, by what the calls are asked for. -/
import Derived.Test.YtpidnkfcccboaaaGreatKInv4
import Derived.Test.YtpidnkfcccboaaaGreatKPagerJoin
import Derived.Deep.CutBlock
namespace Go.Proofs.YtpidnkfcccboaaaGreat.PagerCovers
open Go.RowKit Base PagePlain PageSmall FreePlain FreeMem SuperPlain SuperRefCheck PagerPlain PagerTold PagerNum PagerCov PagerSpec PagerPlumb PagerLaw PagerDo PagerAwake PagerRun PagerWithout PagerJoin FreeCov DiskMem

/-- append([]int{}, l...) -/
theorem copyI (w : World) (A : Option Addr) (n c : Nat) (l : List Int) (hn : n = l.length) (hr : Row w w.heap.size A (intsV l)) (hl : l.length ≤ 1000) :
  ∃ A' c' w', (Builtin.append_ #[32, 32] 32 #[.slice (some ⟨w.heap.size, 0, none⟩) 0 0, .slice A n c]).run Tryz.prog (w.alloc (.cells #[] 3)) = .ok (.slice A' n c') w' ∧ Own w' w.heap.size 3 A' c' (intsV l) ∧ Below w.heap.size w w' := by
 subst hn
 have h0 : Own (w.alloc (.cells #[] 3)) w.heap.size 3 (some ⟨w.heap.size, 0, none⟩) 0 (intsV []) := Own.empty _ _ (Nat.le_refl _)
 have b0 := al' w (.cells #[] 3)
 obtain ⟨A', c', w', hrun, ho, hg⟩ := run_append_row (P := Tryz.prog) 32 PagerWithout.el_ints (c2 := c) h0 (hr.belowSize b0) (ints_one l) (by simp [intsV, maxLen]; omega) (by simp [intsV]; omega) b0.size
 rw [show (intsV []).length = 0 from rfl, PagerSame.intsV_len, Nat.zero_add] at hrun
 exact ⟨A', c', w', hrun, by simpa [intsV] using ho, h0.below b0 hg (Nat.le_refl _) b0.size⟩
/-- one number more -/
theorem pushI (w : World) (B : Nat) (A : Option Addr) (c : Nat) (l : List Int) (z : Int) (h : Own w B 3 A c (intsV l)) (hl : l.length ≤ 1000) (hB : B ≤ w.heap.size) :
  ∃ A' c' w', (Builtin.append_ #[32, 32] 32 #[.slice A l.length c, .slice (some ⟨w.heap.size, 0, none⟩) 1 1]).run Tryz.prog (w.alloc (.cells #[.int .i64 z] 3)) = .ok (.slice A' (l ++ [z]).length c') w' ∧ Own w' B 3 A' c' (intsV (l ++ [z])) ∧ Below B w w' := by
 have h1 : Row (w.alloc (.cells #[.int .i64 z] 3)) (w.alloc (.cells #[.int .i64 z] 3)).heap.size (some ⟨w.heap.size, 0, none⟩) [.int .i64 z] := one_int (heap_alloc_new w _)
 have b1 := al' w (.cells #[.int .i64 z] 3)
 have hB1 : B ≤ (w.alloc (.cells #[.int .i64 z] 3)).heap.size := Nat.le_trans hB b1.size
 obtain ⟨A', c', w', hrun, ho, hg⟩ := run_append_row (P := Tryz.prog) 32 PagerWithout.el_ints (c2 := 1) (h.alloc (.cells #[.int .i64 z] 3)) h1 (by intro v hv; rw [List.mem_singleton.1 hv]; rfl) (by rw [PagerSame.intsV_len]; simp [maxLen]; omega) (by rw [PagerSame.intsV_len]; simp; omega) hB1
 rw [PagerSame.intsV_len] at hrun
 have el : (l ++ [z]).length = l.length + [Value.int .i64 z].length := by simp
 exact ⟨A', c', w', by rw [el]; exact hrun, by simpa [intsV] using ho, (h.alloc (.cells #[.int .i64 z] 3)).below (b1.mono hB) hg (Nat.le_refl _) hB1⟩
theorem cov_len {P : PS} {u k : List Int} {m : Int} (h : Cov P u k) (hf : Fine P m) : u.length + P.ch.length + P.fl.length ≤ 298 := by
 have h1 := (onc_range.1 h.now).2.2
 simp only [List.length_append, ks, List.length_map] at h1
 have a := hf.inv.len
 have b := hf.inv.most
 have c := hf.few
 unfold many at h1
 omega
theorem cover_it {P : PS} {u k : List Int} {m : Int} {w : World} {A B : Option Addr} {c d : Nat} (h : Cov P u k) (hf : Fine P m) (hr : Row w w.heap.size A (fr P.fl)) (hq : Row w w.heap.size B (intsV u ++ intsV P.ch)) :
  Calls Tryz.prog 23 #[.slice A P.fl.length c, .slice B (u.length + P.ch.length) d, .int .i64 P.pg] w fun e w' => e = .returned (.bool true) ∧ Below w.heap.size w w' := by
 have hl := cov_len h hf
 have ho := onc_range.1 h.now
 have a := hf.inv.len
 have b := hf.inv.most
 have c' := hf.few
 have hmem : ∀ x, x ∈ u ++ P.ch ++ ks P.fl → 0 ≤ x ∧ x ≤ 1000000 := fun x hx => by have := ho.2.1 x hx; omega
 refine FreeCover.cover_any w A B P.fl.length c (u.length + P.ch.length) d P.fl (u ++ P.ch) P.pg true rfl (by simp) hr (by simpa [intsV, FreeCover.ints] using hq) (by omega) (by rw [List.length_append]; omega)
  (fun p hp => ?_) (fun x hx => ?_) (by omega) (iff_of_true rfl ?_)
 ·have := hmem p.1 (List.mem_append.2 (Or.inr (ks_of hp)))
  exact FreeCover.wf_small this.1 this.2
 ·have := hmem x (List.mem_append.2 (Or.inl hx))
  exact FreeCover.wf_small this.1 this.2
 ·exact (onc_perm List.perm_append_comm).1 h.now
/-- between two rounds -/
def Cr (M : Mem) (W : World) (p d : Nat) (k : Nat) (P : PS) (m : Int) (S : Blks) (u kk : List Int) (A5 A6 : Option Addr) (w : World) : Prop :=
 PM M W w p d P m S ∧ RowP w S A5 (intsV u) ∧ RowP w S A6 (intsV kk) ∧ Cov P u kk ∧ Fine P m ∧ m ≤ 1000000 * ((k : Int) + 2) ∧ P.x.ep ≤ (k : Int) + 2
set_option maxRecDepth 100000 in
set_option maxHeartbeats 51200000 in
theorem covers_any {M : Mem} (X : Specs M) (W : World) (A : Option Addr) (cx : Nat) (xs : List PA) (hA : Acts W A xs) (hx : xs.length ≤ maxLen) :
  Calls Tryz.prog 4 #[.slice A xs.length cx] W (Law W) := by
 have HXS := Lib.hid hA
 clear hA
 unfold maxLen at hx
 unfold Law
 have hcall := X.fresh W 60 (by omega) (by omega)
 go_enter Tryz.func4, Tryz.ntmps4
 go_wp2_with fail
 (with_reducible refine hcall.mono ?_)
 clear hcall
 rintro e w1 ⟨p, d, F, rfl, hm, hF, hb⟩
 have h1 : PM M W w1 p d (freshP 60) 1000000 (fun b => b < W.heap.size) := pm_fresh hm hF hb
 clear hm hF hb
 have hcall := awake_any X w1
 unfold Law at hcall
 go_wp2_with fail
 (with_reducible refine hcall.mono ?_)
 clear hcall
 rintro e w2 ⟨rfl, b2⟩
 have h2 := h1.below X b2
 clear h1 b2
 obtain ⟨w3, hw3⟩ : ∃ v, v = w2.alloc (.cells #[] 3) := ⟨_, rfl⟩
 obtain ⟨w4, hw4⟩ : ∃ v, v = w3.alloc (.cells #[] 3) := ⟨_, rfl⟩
 have hb4 : Below w2.heap.size w2 w4 := by rw [hw4, hw3]; exact Below.step (al' _ _) (al' _ _)
 have HN0 := Lib.hid (show Cr M W p d 0 (freshP 60) 1000000 (fun b => b < W.heap.size) [] [] (some ⟨w2.heap.size, 0, none⟩) (some ⟨w3.heap.size, 0, none⟩) w4 from ⟨h2.below X hb4, RowP.nil, RowP.nil, ⟨onc_range.2 ⟨List.nodup_nil, fun x hx => (by cases hx), rfl⟩, onc_range.2 ⟨List.nodup_nil, fun x hx => (by cases hx), rfl⟩⟩, fine_fresh (by omega) (by omega), by omega, by show (1 : Int) ≤ _; omega⟩)
 have hs3 : w3.heap.size = w2.heap.size + 1 := by rw [hw3]; simp
 have HW3 := Lib.hid hw3
 have HW4 := Lib.hid hw4
 clear hw3 hw4 h2 hb4
 go_upto_region 6 with fail
 try rw [← HW3.out]
 try rw [← HW4.out]
 clear HW3 HW4
 go_wp2_with fail
 rw [hs3] at HN0
 go_loopw [5, 6, 7] (fun v5 v6 i wr => ∃ (k : Nat) (P : PS) (m : Int) (S : Blks) (u kk : List Int) (A5 : Option Addr) (c5 : Nat) (A6 : Option Addr) (c6 : Nat), k ≤ xs.length ∧ k ≤ 50 ∧ i = .int .i64 k ∧ v5 = .slice A5 u.length c5 ∧ v6 = .slice A6 kk.length c6 ∧ Cr M W p d k P m S u kk A5 A6 wr) (fun _ _ i _ => 50 - (intOf i).toNat)
 case atStart => exact ⟨0, _, _, _, [], [], _, 0, _, 0, by omega, by omega, rfl, rfl, rfl, HN0.out⟩
 case round =>
  clear HN0 hs3
  obtain ⟨k, P, m, S, u, kk, A5, c5, A6, c6, hk, hkb, rfl, rfl, rfl, hpm, hu, hkr, hcov, hfn, hm, hep⟩ := hrel
  by_cases hlt : k < xs.length ∧ k < 50
  rotate_left
  ·have hex : (xs.length ≤ k) ∨ (k < xs.length ∧ 50 ≤ k) := by omega
   have HB := Lib.hid hpm.base
   clear hlt hpm hu hkr hcov hfn hm hep
   rcases hex with hex | ⟨hex, hex2⟩
   ·go_wp2_with fail
    go_ret
    exact ⟨rfl, HB.out⟩
   ·go_wp2_with fail
    go_ret
    exact ⟨rfl, HB.out⟩
  obtain ⟨hl1, hl2⟩ := hlt
  obtain ⟨⟨z0, z1, z2, z3, z4, z5, cs⟩, hx⟩ : ∃ x, xs[k]? = some x := ⟨_, List.getElem?_eq_getElem hl1⟩
  obtain ⟨ab, ao, K, ck, hat⟩ := Acts.at HXS.out hpm.base hx
  have hidx := idx_acts (n := xs.length) (c := cx) hat.hA hl1
  have c0 : wr.cell? ⟨ab, ao + k * 7, none⟩ = some (.int .i64 z0) := hat.c0
  have c1 : wr.cell? ⟨ab, ao + k * 7 + 1, none⟩ = some (.int .i64 z1) := hat.c1
  have c2 : wr.cell? ⟨ab, ao + k * 7 + 2, none⟩ = some (.int .i64 z2) := hat.c2
  have c3 : wr.cell? ⟨ab, ao + k * 7 + 3, none⟩ = some (.int .i64 z3) := hat.c3
  have c4 : wr.cell? ⟨ab, ao + k * 7 + 4, none⟩ = some (.int .i64 z4) := hat.c4
  have q5 : wr.cell? ⟨ab, ao + k * 7 + 5, none⟩ = some (.int .i64 z5) := hat.c5
  have q6 : wr.cell? ⟨ab, ao + k * 7 + 6, none⟩ = some (.slice K cs.length ck) := hat.c6
  obtain ⟨w1, hw1⟩ : ∃ v, v = wr.alloc (.cells #[.int .i64 z0, .int .i64 z1, .int .i64 z2, .int .i64 z3, .int .i64 z4, .int .i64 z5, .slice K cs.length ck] 39) := ⟨_, rfl⟩
  have b1 : Below wr.heap.size wr w1 := by rw [hw1]; exact al' _ _
  have a1 : At w1 wr.heap.size 39 #[.int .i64 z0, .int .i64 z1, .int .i64 z2, .int .i64 z3, .int .i64 z4, .int .i64 z5, .slice K cs.length ck] := by rw [hw1]; exact heap_alloc_new wr _
  have h1 := hpm.more X b1
  have hbx1 : Plus S wr w1 wr.heap.size := Or.inr ⟨Nat.le_refl _, a1.lt⟩
  have hrow1 : Row w1 w1.heap.size K (strs cs) := hat.row.belowSize b1
  have HOKA := Lib.hid hat.ok
  have HWA0 := Lib.hid hpm.base.size
  have HLU := Lib.hid (cov_len hcov hfn)
  have hcall := few_any w1 ⟨z0, z1, z2, z3, z4, z5, cs⟩ K ck hrow1 hat.ok.few
  have HW1 := Lib.hid hw1
  have HST := Lib.hid (And.intro hpm (And.intro hu (And.intro hkr (And.intro hcov (And.intro hfn (And.intro hm hep))))))
  have HH1 := Lib.hid (And.intro h1 (And.intro (hu.below b1) (And.intro (hkr.below b1) (And.intro hrow1 b1))))
  clear hw1 hat hx hpm hu hkr hcov hfn hm hep h1 hrow1 b1
  obtain ⟨S1, hS1⟩ : ∃ s, s = Plus S wr w1 := ⟨_, rfl⟩
  rw [← hS1] at hbx1 HH1
  have HS1 := Lib.hid hS1
  clear hS1
  generalize hbx : wr.heap.size = bx at a1 hbx1
  obtain ⟨d0, d1, d2, d3, d4, d5, d6⟩ := seven a1
  go_upto_region 10 with fail
  try rw [← HW1.out]
  try rw [hbx]
  clear hbx HW1 c0 c1 c2 c3 c4 q5 q6 hidx
  by_cases hfew : cs.length ≤ 130 ∧ ∀ q ∈ cs, q.size ≤ 300
  rotate_left
  ·have hcall : Calls Tryz.prog 11 #[.agg #[.int .i64 z0, .int .i64 z1, .int .i64 z2, .int .i64 z3, .int .i64 z4, .int .i64 z5, .slice K cs.length ck]] w1 fun e w' => e = .returned (.bool false) ∧ Below w1.heap.size w1 w' := by
    have := hcall
    rwa [decide_eq_false hfew] at this
   clear hfew
   go_wp2_with fail
   (with_reducible refine hcall.mono ?_)
   clear hcall
   rintro e wf ⟨rfl, bf⟩
   go_wp2_with fail
   go_roundw
   case rel => exact ⟨k + 1, P, m, S, u, kk, A5, c5, A6, c6, by omega, by omega, by go_num, rfl, rfl, (HST.out.1.below X HH1.out.2.2.2.2).below X bf, (HST.out.2.1.below HH1.out.2.2.2.2).below bf, (HST.out.2.2.1.below HH1.out.2.2.2.2).below bf, HST.out.2.2.2.1, HST.out.2.2.2.2.1, by have := HST.out.2.2.2.2.2.1; omega, by have := HST.out.2.2.2.2.2.2; omega⟩
   case measure => simp [intOf]; omega
  have hcall : Calls Tryz.prog 11 #[.agg #[.int .i64 z0, .int .i64 z1, .int .i64 z2, .int .i64 z3, .int .i64 z4, .int .i64 z5, .slice K cs.length ck]] w1 fun e w' => e = .returned (.bool true) ∧ Below w1.heap.size w1 w' := by
   have := hcall
   rwa [decide_eq_true hfew] at this
  have HFEW := Lib.hid hfew
  clear hfew
  go_wp2_with fail
  (with_reducible refine hcall.mono ?_)
  clear hcall
  clear d0 d1 d2 d3 d4 d5 d6
  rintro e wv ⟨rfl, b2⟩
  have a2 := atb a1 b2
  obtain ⟨d0, d1, d2, d3, d4, d5, d6⟩ := seven a2
  obtain ⟨Q, nn, er, hact⟩ : ∃ Q nn er, act P ⟨z0, z1, z2, z3, z4, z5, cs⟩ = (Q, nn, er) := ⟨_, _, _, rfl⟩
  have hcall := do_any X (HH1.out.1.below X b2) HST.out.2.2.2.2.1 ⟨z0, z1, z2, z3, z4, z5, cs⟩ HOKA.out K ck HFEW.out (HH1.out.2.2.2.1.belowSize b2)
  rw [hact] at hcall
  have hcall : Calls Tryz.prog 13 #[.pointer (some ⟨p, 0, none⟩), .agg #[.int .i64 z0, .int .i64 z1, .int .i64 z2, .int .i64 z3, .int .i64 z4, .int .i64 z5, .slice K cs.length ck]] wv fun e w' => e = .returned (.tuple #[.int .i64 nn, .int .i64 er]) ∧ PM M W w' p d Q (m + 1000000) S1 ∧ Turn (Not S1) wv w' := hcall
  have HQ := Lib.hid (show Fine Q (m + 1000000) ∧ (m + 1000000 ≤ 1000000 * (((k + 1 : Nat) : Int) + 2) ∧ Q.x.ep ≤ ((k + 1 : Nat) : Int) + 2) from by
   have a := fine_act HST.out.2.2.2.2.1 ⟨z0, z1, z2, z3, z4, z5, cs⟩ (by have := HST.out.2.2.2.2.2.2; omega) (by have := HST.out.2.2.2.2.2.1; omega)
   have b := ep_act HST.out.2.2.2.2.1.inv ⟨z0, z1, z2, z3, z4, z5, cs⟩
   rw [hact] at a b
   exact ⟨a, by have := HST.out.2.2.2.2.2.1; omega, by have := HST.out.2.2.2.2.2.2; have b' : Q.x.ep ≤ P.x.ep + 1 := b; omega⟩)
  have HCV0 := Lib.hid (show (z0 = 1 ∨ z0 = 2 → z3 ∉ Q.ch) → Cov Q (PagerCov.step u kk ⟨z0, z1, z2, z3, z4, z5, cs⟩ nn er).1 (PagerCov.step u kk ⟨z0, z1, z2, z3, z4, z5, cs⟩ nn er).2 from fun q => by
   have h := PagerCov.Cov.act HST.out.2.2.2.2.1.inv HST.out.2.2.2.1 ⟨z0, z1, z2, z3, z4, z5, cs⟩
   rw [hact] at h
   exact h q)
  have HACT := Lib.hid hact
  clear hact
  have HR2 := Lib.hid (And.intro ((HH1.out.2.1.below b2).wide (T := S1) fun b hb => by rw [HS1.out]; exact Or.inl hb) ((HH1.out.2.2.1.below b2).wide (T := S1) fun b hb => by rw [HS1.out]; exact Or.inl hb))
  have HWB1 := Lib.hid (And.intro HWA0.out HH1.out.2.2.2.2.size)
  clear HH1 HST HOKA HFEW a1 b2
  go_upto_region 11 with fail
  go_wp2_with fail
  (with_reducible refine hcall.mono ?_)
  clear hcall
  rintro e w3 ⟨rfl, h3, t3⟩
  have ru3 := HR2.out.1.turn t3 fun _ q z => z q
  have rk3 := HR2.out.2.turn t3 fun _ q z => z q
  have a3 := att a2 t3 hbx1
  have HWA := Lib.hid (show W.heap.size ≤ w3.heap.size from h3.base.size)
  clear HR2 HWB1 HWA0 a2 t3 d0 d1 d2 d3 d4 d5 d6
  obtain ⟨U, KK, hst⟩ : ∃ U KK, PagerCov.step u kk ⟨z0, z1, z2, z3, z4, z5, cs⟩ nn er = (U, KK) := ⟨_, _, rfl⟩
  have HCV := Lib.hid (show (z0 = 1 ∨ z0 = 2 → z3 ∉ Q.ch) → Cov Q U KK from fun q => by have h := HCV0.out q; rw [hst] at h; exact h)
  have HST2 := Lib.hid hst
  have H3 := Lib.hid (And.intro h3 (And.intro ru3 (And.intro rk3 (And.intro a3 hbx1))))
  clear hst HCV0 h3 ru3 rk3 a3 hbx1
  go_upto_block 2 with fail
  go_cut [5, 6] from 29 to 148 (fun s5 s6 wx => ∃ (B5 : Option Addr) (n5 : Nat) (B6 : Option Addr) (n6 : Nat), s5 = .slice B5 U.length n5 ∧ s6 = .slice B6 KK.length n6 ∧ ∃ S2 : Blks, PM M W wx p d Q (m + 1000000) S2 ∧ S2 bx ∧ At wx bx 39 #[.int .i64 z0, .int .i64 z1, .int .i64 z2, .int .i64 z3, .int .i64 z4, .int .i64 z5, .slice K cs.length ck] ∧ RowP wx S2 B5 (intsV U) ∧ RowP wx S2 B6 (intsV KK))
  case first =>
   obtain ⟨h3, ru3, rk3, a3, hbx1⟩ := H3.out
   by_cases k0 : z0 = 0
   ·subst k0
    by_cases her : er = 0
    ·subst her
     have hst := HST2.out
     simp [PagerCov.step] at hst
     obtain ⟨rfl, rfl⟩ := hst
     obtain ⟨A2', c2', w4, hrun1, o4, b4⟩ := copyI w3 A5 u.length c5 u rfl ru3.row (by have := HLU.out; omega)
     obtain ⟨A5', c5', w5, hrun2, o5, b5⟩ := pushI w4 w3.heap.size A2' c2' u nn o4 (by have := HLU.out; omega) b4.size
     have b35 : Below w3.heap.size w3 w5 := b4.trans b5
     obtain ⟨d0, d1, d2, d3, d4, d5, d6⟩ := seven a3
     go_wp2_with (first | (at_builtin; refine FreeMem.wpList_append_run rfl (.tmp 64) (.tmp 65) 32 32 rfl rfl rfl hrun1 ?_) | (at_builtin; refine FreeMem.wpList_append_run rfl (.tmp 66) (.tmp 68) 32 32 rfl rfl rfl hrun2 ?_))
     go_meet
     exact ⟨A5', c5', A6, c6, (by first | rfl | simp), rfl, Plus S1 w3 w5, h3.more X b35, Or.inl hbx1, atb a3 b35, own_rowP (S := Plus S1 w3 w5) o5 (fun b q1 q2 => Or.inr ⟨q1, q2⟩), (rk3.below b35).wide fun b hb => Or.inl hb⟩
    ·have e1 : (er != 0) = true := by simpa using her
     have hst := HST2.out
     rw [step_err u kk _ nn her (by simp)] at hst
     injection hst with q1 q2
     subst q1 q2
     clear her
     obtain ⟨d0, d1, d2, d3, d4, d5, d6⟩ := seven a3
     go_wp2_with fail
     go_meet
     exact ⟨A5, c5, A6, c6, rfl, rfl, S1, h3, hbx1, a3, ru3, rk3⟩
   by_cases k1 : z0 = 1
   ·subst k1
    by_cases her : er = 0
    ·subst her
     have hst := HST2.out
     simp [PagerCov.step] at hst
     obtain ⟨rfl, rfl⟩ := hst
     have hcall := without_any w3 A5 u.length c5 u z3 rfl ru3.row (by have := HLU.out; omega)
     obtain ⟨d0, d1, d2, d3, d4, d5, d6⟩ := seven a3
     go_wp2_with fail
     (with_reducible refine hcall.mono ?_)
     clear hcall
     rintro e w4 ⟨A2', c2', rfl, o4, b4⟩
     have hwl : (without u z3).length ≤ 1000 := Nat.le_trans (List.length_filter_le _ _) (by have := HLU.out; omega)
     obtain ⟨A5', c5', w5, hrun2, o5, b5⟩ := pushI w4 w3.heap.size A2' c2' (without u z3) nn o4 hwl b4.size
     have b35 : Below w3.heap.size w3 w5 := b4.trans b5
     clear d0 d1 d2 d3 d4 d5 d6
     go_wp2_with (at_builtin; refine FreeMem.wpList_append_run rfl (.tmp 77) (.tmp 79) 32 32 rfl rfl rfl hrun2 ?_)
     go_meet
     exact ⟨A5', c5', A6, c6, (by first | rfl | simp), rfl, Plus S1 w3 w5, h3.more X b35, Or.inl hbx1, atb a3 b35, own_rowP (S := Plus S1 w3 w5) o5 (fun b q1 q2 => Or.inr ⟨q1, q2⟩), (rk3.below b35).wide fun b hb => Or.inl hb⟩
    ·have e1 : (er != 0) = true := by simpa using her
     have hst := HST2.out
     rw [step_err u kk _ nn her (by simp)] at hst
     injection hst with q1 q2
     subst q1 q2
     clear her
     obtain ⟨d0, d1, d2, d3, d4, d5, d6⟩ := seven a3
     go_wp2_with fail
     go_meet
     exact ⟨A5, c5, A6, c6, rfl, rfl, S1, h3, hbx1, a3, ru3, rk3⟩
   by_cases k2 : z0 = 2
   ·subst k2
    by_cases her : er = 0
    ·subst her
     have hst := HST2.out
     simp [PagerCov.step] at hst
     obtain ⟨rfl, rfl⟩ := hst
     have hcall := without_any w3 A5 u.length c5 u z3 rfl ru3.row (by have := HLU.out; omega)
     obtain ⟨d0, d1, d2, d3, d4, d5, d6⟩ := seven a3
     go_wp2_with fail
     (with_reducible refine hcall.mono ?_)
     clear hcall
     rintro e w5 ⟨A5', c5', rfl, o5, b35⟩
     clear d0 d1 d2 d3 d4 d5 d6
     go_wp2_with fail
     go_meet
     exact ⟨A5', c5', A6, c6, (by first | rfl | simp), rfl, Plus S1 w3 w5, h3.more X b35, Or.inl hbx1, atb a3 b35, own_rowP (S := Plus S1 w3 w5) o5 (fun b q1 q2 => Or.inr ⟨q1, q2⟩), (rk3.below b35).wide fun b hb => Or.inl hb⟩
    ·have e1 : (er != 0) = true := by simpa using her
     have hst := HST2.out
     rw [step_err u kk _ nn her (by simp)] at hst
     injection hst with q1 q2
     subst q1 q2
     clear her
     obtain ⟨d0, d1, d2, d3, d4, d5, d6⟩ := seven a3
     go_wp2_with fail
     go_meet
     exact ⟨A5, c5, A6, c6, rfl, rfl, S1, h3, hbx1, a3, ru3, rk3⟩
   by_cases k3 : z0 = 3
   ·subst k3
    by_cases her : er = 0
    ·subst her
     have hst := HST2.out
     simp [PagerCov.step] at hst
     obtain ⟨rfl, rfl⟩ := hst
     obtain ⟨d0, d1, d2, d3, d4, d5, d6⟩ := seven a3
     go_wp2_with fail
     go_meet
     exact ⟨A5, c5, A5, c5, rfl, rfl, S1, h3, hbx1, a3, ru3, ru3⟩
    by_cases h81 : er = 81
    ·subst h81
     have hst := HST2.out
     simp [PagerCov.step] at hst
     obtain ⟨rfl, rfl⟩ := hst
     obtain ⟨d0, d1, d2, d3, d4, d5, d6⟩ := seven a3
     go_wp2_with fail
     go_meet
     exact ⟨A5, c5, A6, c6, rfl, rfl, S1, h3, hbx1, a3, ru3, rk3⟩
    have hst := HST2.out
    simp [PagerCov.step, her, h81] at hst
    obtain ⟨rfl, rfl⟩ := hst
    have e1 : (er != 0) = true := by simpa using her
    have e2 : (er == 0) = false := by simpa using her
    have e3 : (er != 81) = true := by simpa using h81
    clear her h81
    obtain ⟨d0, d1, d2, d3, d4, d5, d6⟩ := seven a3
    go_wp2_with fail
    go_meet
    exact ⟨A6, c6, A6, c6, rfl, rfl, S1, h3, hbx1, a3, rk3, rk3⟩
   by_cases k4 : z0 = 4
   ·subst k4
    have her : er = 0 := by have := HACT.out; simp [PagerPlain.act] at this; omega
    subst her
    have hst := HST2.out
    simp [PagerCov.step] at hst
    obtain ⟨rfl, rfl⟩ := hst
    obtain ⟨d0, d1, d2, d3, d4, d5, d6⟩ := seven a3
    go_wp2_with fail
    go_meet
    exact ⟨A6, c6, A6, c6, rfl, rfl, S1, h3, hbx1, a3, rk3, rk3⟩
   have her : er = 0 := by
    have h := HACT.out
    by_cases k5 : z0 = 5
    ·subst k5; simp [PagerPlain.act] at h; omega
    ·simp [PagerPlain.act, k0, k1, k2, k3, k4, k5] at h; omega
   subst her
   have hst := HST2.out
   simp [PagerCov.step, k0, k1, k2, k3, k4] at hst
   obtain ⟨rfl, rfl⟩ := hst
   have e0 : (z0 == 0) = false := by simpa using k0
   have e1 : (z0 == 1) = false := by simpa using k1
   have e2 : (z0 == 2) = false := by simpa using k2
   have e3 : (z0 == 3) = false := by simpa using k3
   have e4 : (z0 == 4) = false := by simpa using k4
   clear k0 k1 k2 k3 k4
   obtain ⟨d0, d1, d2, d3, d4, d5, d6⟩ := seven a3
   go_wp2_with fail
   go_meet
   exact ⟨A5, c5, A6, c6, rfl, rfl, S1, h3, hbx1, a3, ru3, rk3⟩
  case rest =>
   obtain ⟨B5, n5, B6, n6, rfl, rfl, S2, hT, hsx, aT, ru, rk⟩ := hcut
   clear H3
   have HT := Lib.hid (And.intro hT (And.intro hsx (And.intro aT (And.intro ru rk))))
   clear hT hsx ru rk
   generalize hwt : wc = wt at *
   clear hwt
   obtain ⟨d0, d1, d2, d3, d4, d5, d6⟩ := seven aT
   clear aT
   obtain ⟨bb, hbb⟩ : ∃ bb, decide (z0 = 1 ∨ z0 = 2) = bb := ⟨_, rfl⟩
   go_upto_region 23 with fail
   go_cut [119] from 29 to 148 (fun s wx => s = .bool bb ∧ wx = wt)
   case first =>
    by_cases k1 : z0 = 1
    ·subst k1
     obtain rfl : true = bb := by rw [← hbb]; rfl
     go_wp2_with fail
     go_meet
     exact ⟨rfl, rfl⟩
    by_cases k2 : z0 = 2
    ·subst k2
     obtain rfl : true = bb := by rw [← hbb]; rfl
     go_wp2_with fail
     go_meet
     exact ⟨rfl, rfl⟩
    obtain rfl : false = bb := by rw [← hbb]; simp [k1, k2]
    have e1 : (z0 == 1) = false := by simpa using k1
    have e2 : (z0 == 2) = false := by simpa using k2
    clear k1 k2
    go_wp2_with fail
    go_meet
    exact ⟨rfl, rfl⟩
   case rest =>
    obtain ⟨rfl, rfl⟩ := hcut
    clear d0 d1 d2 d3 d4 d5 d6
    have HBB := Lib.hid hbb
    clear hbb
    go_upto_if 119 with fail
    go_cut [11, 12] from 29 to 148 (fun s11 s12 wx => s11 = s11 ∧ s12 = s12 ∧ ∃ S3 : Blks, PM M W wx p d Q (m + 1000000) S3 ∧ RowP wx S3 B5 (intsV U) ∧ RowP wx S3 B6 (intsV KK) ∧ (z0 = 1 ∨ z0 = 2 → z3 ∉ Q.ch))
    case first =>
     cases bb with
     | false =>
      go_wp2_with fail
      go_meet
      exact ⟨trivial, trivial, S2, HT.out.1, HT.out.2.2.2.1, HT.out.2.2.2.2, fun q => absurd q (of_decide_eq_false HBB.out)⟩
     | true =>
      have hlq := few_ch HQ.out.1.inv
      have hlq2 := HQ.out.1.inv.len
      have hlq3 := HQ.out.1.inv.most
      have hlq4 := HQ.out.1.few
      have hlq5 : Q.ch.length ≤ 300 := by omega
      clear hlq hlq2 hlq3 hlq4
      have hcall := pm_chain X HT.out.1 HQ.out.1
      have aT := HT.out.2.2.1
      obtain ⟨d0, d1, d2, d3, d4, d5, d6⟩ := seven aT
      go_wp2_with fail
      (with_reducible refine hcall.mono ?_)
      clear hcall
      rintro e wy ⟨A9, c9, rfl, by9, hy9, ry9⟩
      clear d0 d1 d2 d3 d4 d5 d6
      have HRY := Lib.hid (And.intro hy9 (And.intro ry9 (And.intro (HT.out.2.2.2.1.below by9) (And.intro (HT.out.2.2.2.2.below by9) (atb HT.out.2.2.1 by9)))))
      clear ry9 hy9 by9 aT
      go_wp2_with fail
      go_loopw [12] (fun j wz => ∃ jj : Nat, jj ≤ Q.ch.length ∧ j = .int .i64 jj ∧ Below wy.heap.size wy wz ∧ z3 ∉ Q.ch.take jj) (fun j _ => Q.ch.length - (intOf j).toNat)
      case atStart => exact ⟨0, by omega, rfl, Below.refl _ _, by simp⟩
      case round =>
       obtain ⟨jj, hjj, rfl, hbz, hnj⟩ := hrel
       have hz9 := HRY.out.1.below X hbz
       obtain ⟨d0, d1, d2, d3, d4, d5, d6⟩ := seven (atb HRY.out.2.2.2.2 hbz)
       by_cases hjl : jj < Q.ch.length
       ·obtain ⟨ad9, hA9, hb9, hc9⟩ := PagerSame.intsV_get (HRY.out.2.1.below hbz).row jj hjl
        subst hA9
        have HNJ := Lib.hid (show z3 ∉ Q.ch.take (jj + 1) ↔ Q.ch[jj] ≠ z3 from by
         rw [List.take_succ_eq_append_getElem hjl, List.mem_append, List.mem_singleton]
         exact ⟨fun a b => a (Or.inr b.symm), fun a b => b.elim hnj fun b => a b.symm⟩)
        have HBZ := Lib.hid (And.intro hz9.base hbz)
        clear hnj hz9
        by_cases heq : Q.ch[jj] = z3
        ·have e9 : (Q.ch[jj] == z3) = true := by simpa using heq
         clear heq HNJ
         generalize Q.ch[jj] = g9 at *
         go_wp2_with fail
         go_quiet (fail)
         go_wp2_with fail
         go_ret
         exact ⟨rfl, HBZ.out.1.trans (Base.below_drewN _ _ _)⟩
        ·have e9 : (Q.ch[jj] == z3) = false := by simpa using heq
         have HNN := Lib.hid (HNJ.out.2 heq)
         clear heq HNJ
         generalize Q.ch[jj] = g9 at *
         go_wp2_with fail
         go_quiet (fail)
         go_wp2_with fail
         go_roundw
         case rel => exact ⟨jj + 1, by omega, by go_num, HBZ.out.2.trans (Base.below_drewN _ _ _), HNN.out⟩
         case measure => simp [intOf]; omega
       ·rw [List.take_of_length_le (by omega)] at hnj
        have HZ := Lib.hid (And.intro hz9 (And.intro ((HRY.out.2.2.1.below hbz).wide (T := Plus S2 wc wy) fun b hb => Or.inl hb) (And.intro ((HRY.out.2.2.2.1.below hbz).wide (T := Plus S2 wc wy) fun b hb => Or.inl hb) (fun _ : z0 = 1 ∨ z0 = 2 => hnj))))
        have h9n : ¬ ((jj : Int) < (Q.ch.length : Int)) := by omega
        clear hnj hz9 HRY hbz
        go_wp2_with fail
        go_meet
        exact ⟨trivial, trivial, _, HZ.out⟩
    case rest =>
     obtain ⟨_, _, S3, hT, ru, rk, hch⟩ := hcut
     have HC := Lib.hid (HCV.out hch)
     have HLE := Lib.hid (cov_len HC.out HQ.out.1)
     clear hch HT HCV HACT HST2 HLU HWA
     go_upto_region 30 with fail
     obtain ⟨B, hBe⟩ : ∃ B, B = (World.drew wc).heap.size := ⟨_, rfl⟩
     have hb0 : JB M W p d Q (m + 1000000) S3 U KK B5 B6 B (World.drew wc) := by
      rw [hBe]
      exact JB.of (hT.below X (Below.refl _ _).drew) X (ru.below (Below.refl _ _).drew) (rk.below (Below.refl _ _).drew)
     have hJ0 := fun a0 : Act => JC.start (sF := 136) (sE := 137) (sO := 139) (sC := 141) (sA := 142) (oF := 1) (oE := 2) (oO := 4) (oC := 6) (oA := 7) hb0 a0
     clear hT ru rk hBe hb0
     refine wp_region_any (by kernel_rfl) ?_
     change wpAny _ _ _ _ _ _ _ (World.drew _)
     refine Inv4.inv_any (fun (i : Nat) (v : Value) (w : World) => match i with | 0 => v = .pointer (some ⟨p, 0, none⟩) | 3 => v = .slice B5 U.length n5 | 5 => v = .pointer (some ⟨p, 0, none⟩) | 8 => v = .pointer (some ⟨p, 0, none⟩) | 9 => v = .pointer (some ⟨p, 0, none⟩) | 10 => v = .pointer (some ⟨p, 0, none⟩) | 11 => v = .int .i64 Q.pg | 12 => v = .bool true | 13 => v = .bool false | _ => True) (fun _ _ => True) (fun q a w => JC M W p d Q (m + 1000000) S3 U KK B5 B6 B 136 137 139 141 142 1 2 4 6 7 q a w) _ ?_ 149 rfl rfl rfl (by kernel_rfl) (hJ0 _) ?_ ?_
     ·intro j v w w' h hb
      match j, h with
      | 0, h => exact h
      | 3, h => exact h
      | 5, h => exact h
      | 8, h => exact h
      | 9, h => exact h
      | 10, h => exact h
      | 11, h => exact h
      | 12, h => exact h
      | 13, h => exact h
      | 1, _ => exact trivial
      | 2, _ => exact trivial
      | 4, _ => exact trivial
      | 6, _ => exact trivial
      | 7, _ => exact trivial
      | (_ + 14), _ => exact trivial
     ·skip
      refine Inv4.from_cons _ _ _ _ rfl (fun q a w hq hD hJ hF F K hK => ?_) ?_
      ·have hz : a.tmps.size = 149 := hF.size
       have e3 : a.tmps[3]? = some (.pointer (some ⟨p, 0, none⟩)) := Inv2.some_slot (by rw [hz]; exact Nat.le_of_ble_eq_true rfl) (hF.slot 3 (by kernel_rfl))
       clear F hF
       clear hz
       go_simp
       exact hK (.pointer (some ⟨p, 0, none⟩)) _ rfl (trivial) (hJ.quiet X (Below.refl _ _) (by decide) (by decide) (by decide) (by decide) (by decide) rfl rfl rfl rfl rfl)
      refine Inv4.from_cons _ _ _ _ rfl (fun q a w hq hD hJ hF F K hK => ?_) ?_
      ·have hz : a.tmps.size = 149 := hF.size
       have e135 : a.tmps[135]? = some (.pointer (some ⟨p, 0, none⟩)) := Inv2.some_slot (by rw [hz]; exact Nat.le_of_ble_eq_true rfl) ((F 0 (by kernel_rfl)).2 135 rfl)
       clear F hF
       have hsz : 136 < a.tmps.size := by rw [hz]; exact Nat.le_of_ble_eq_true rfl
       clear hz
       have hh := X.free hJ.b.pm.choose_spec.1 HQ.out.1
       go_simp
       (with_reducible refine hh.mono ?_)
       rintro e' w' ⟨A9, c9, rfl, hb, hr⟩
       go_simp
       exact hK _ _ trivial trivial (hJ.free X hb hsz (by decide) (by decide) (by decide) (by decide) rfl rfl rfl rfl hr)
      refine Inv4.from_cons _ _ _ _ rfl (fun q a w hq hD hJ hF F K hK => ?_) ?_
      ·have hz : a.tmps.size = 149 := hF.size
       clear F hF
       have hsz : 137 < a.tmps.size := by rw [hz]; exact Nat.le_of_ble_eq_true rfl
       clear hz
       have hj2 := hJ.empty X hsz (by decide) (by decide) (by decide) (by decide) rfl rfl rfl rfl
       go_simp
       exact hK _ _ trivial trivial hj2
      refine Inv4.from_cons _ _ _ _ rfl (fun q a w hq hD hJ hF F K hK => ?_) ?_
      ·have hz : a.tmps.size = 149 := hF.size
       have e5 : a.tmps[5]? = some (.slice B5 U.length n5) := Inv2.some_slot (by rw [hz]; exact Nat.le_of_ble_eq_true rfl) (hF.slot 5 (by kernel_rfl))
       clear F hF
       clear hz
       go_simp
       exact hK (.slice B5 U.length n5) _ rfl (trivial) (hJ.quiet X (Below.refl _ _) (by decide) (by decide) (by decide) (by decide) (by decide) rfl rfl rfl rfl rfl)
      refine Inv4.from_cons _ _ _ _ rfl (fun q a w hq hD hJ hF F K hK => ?_) ?_
      ·have hz : a.tmps.size = 149 := hF.size
       have b2 := (F 2 (by kernel_rfl)).1
       have e138 : a.tmps[138]? = some (.slice B5 U.length n5) := Inv2.some_slot (by rw [hz]; exact Nat.le_of_ble_eq_true rfl) ((F 3 (by kernel_rfl)).2 138 rfl)
       clear F hF
       have hsz : 139 < a.tmps.size := by rw [hz]; exact Nat.le_of_ble_eq_true rfl
       obtain ⟨A9, A', c', w', hE9, hrun, hj2⟩ := hJ.copy X hsz b2 hq (hD.no hq (by kernel_rfl)) (by decide) (by decide) (by decide) rfl rfl rfl rfl (by have := HLE.out; omega) n5
       have e137 : a.tmps[137]? = some (.slice A9 0 0) := Inv2.some_slot (by rw [hz]; exact Nat.le_of_ble_eq_true rfl) hE9
       clear hz
       refine PagerDo.step_append_d rfl rfl (.tmp 137) (.tmp 138) 32 32 rfl (vs := .slice A9 0 0) (vx := .slice B5 U.length n5) (by simp [Act.eval, e137]) (by simp [Act.eval, e138]) hrun ?_
       exact hK _ _ trivial trivial hj2
      refine Inv4.from_cons _ _ _ _ rfl (fun q a w hq hD hJ hF F K hK => ?_) ?_
      ·have hz : a.tmps.size = 149 := hF.size
       have e3 : a.tmps[3]? = some (.pointer (some ⟨p, 0, none⟩)) := Inv2.some_slot (by rw [hz]; exact Nat.le_of_ble_eq_true rfl) (hF.slot 3 (by kernel_rfl))
       clear F hF
       clear hz
       go_simp
       exact hK (.pointer (some ⟨p, 0, none⟩)) _ rfl (trivial) (hJ.quiet X (Below.refl _ _) (by decide) (by decide) (by decide) (by decide) (by decide) rfl rfl rfl rfl rfl)
      refine Inv4.from_cons _ _ _ _ rfl (fun q a w hq hD hJ hF F K hK => ?_) ?_
      ·have hz : a.tmps.size = 149 := hF.size
       have e140 : a.tmps[140]? = some (.pointer (some ⟨p, 0, none⟩)) := Inv2.some_slot (by rw [hz]; exact Nat.le_of_ble_eq_true rfl) ((F 5 (by kernel_rfl)).2 140 rfl)
       clear F hF
       have hsz : 141 < a.tmps.size := by rw [hz]; exact Nat.le_of_ble_eq_true rfl
       clear hz
       have hh := X.chain hJ.b.pm.choose_spec.1 HQ.out.1
       go_simp
       (with_reducible refine hh.mono ?_)
       rintro e' w' ⟨A9, c9, rfl, hb, hr⟩
       go_simp
       exact hK _ _ trivial trivial (hJ.chain X hb hsz (by decide) (by decide) (by decide) (by decide) rfl rfl rfl rfl hr)
      refine Inv4.from_cons _ _ _ _ rfl (fun q a w hq hD hJ hF F K hK => ?_) ?_
      ·have hz : a.tmps.size = 149 := hF.size
       have b4 := (F 4 (by kernel_rfl)).1
       have b6 := (F 6 (by kernel_rfl)).1
       clear F hF
       have hsz : 142 < a.tmps.size := by rw [hz]; exact Nat.le_of_ble_eq_true rfl
       obtain ⟨A8, c8, A9, c9, A', c', w', hE8, hE9, hrun, hj2⟩ := hJ.both X hsz b4 b6 hq (by decide) (by decide) (by decide) (by decide) rfl rfl rfl rfl (by have := HLE.out; omega)
       have e139 : a.tmps[139]? = some (.slice A8 U.length c8) := Inv2.some_slot (by rw [hz]; exact Nat.le_of_ble_eq_true rfl) hE8
       have e141 : a.tmps[141]? = some (.slice A9 Q.ch.length c9) := Inv2.some_slot (by rw [hz]; exact Nat.le_of_ble_eq_true rfl) hE9
       clear hz
       refine PagerDo.step_append_d rfl rfl (.tmp 139) (.tmp 141) 32 32 rfl (vs := .slice A8 U.length c8) (vx := .slice A9 Q.ch.length c9) (by simp [Act.eval, e139]) (by simp [Act.eval, e141]) hrun ?_
       exact hK _ _ trivial trivial hj2
      refine Inv4.from_cons _ _ _ _ rfl (fun q a w hq hD hJ hF F K hK => ?_) ?_
      ·have hz : a.tmps.size = 149 := hF.size
       have e3 : a.tmps[3]? = some (.pointer (some ⟨p, 0, none⟩)) := Inv2.some_slot (by rw [hz]; exact Nat.le_of_ble_eq_true rfl) (hF.slot 3 (by kernel_rfl))
       clear F hF
       clear hz
       go_simp
       exact hK (.pointer (some ⟨p, 0, none⟩)) _ rfl (trivial) (hJ.quiet X (Below.refl _ _) (by decide) (by decide) (by decide) (by decide) (by decide) rfl rfl rfl rfl rfl)
      refine Inv4.from_cons _ _ _ _ rfl (fun q a w hq hD hJ hF F K hK => ?_) ?_
      ·have hz : a.tmps.size = 149 := hF.size
       have e143 : a.tmps[143]? = some (.pointer (some ⟨p, 0, none⟩)) := Inv2.some_slot (by rw [hz]; exact Nat.le_of_ble_eq_true rfl) ((F 8 (by kernel_rfl)).2 143 rfl)
       clear F hF
       clear hz
       go_simp
       exact hK (.pointer (some ⟨p, 0, none⟩)) _ rfl (trivial) (hJ.quiet X (Below.refl _ _) (by decide) (by decide) (by decide) (by decide) (by decide) rfl rfl rfl rfl rfl)
      refine Inv4.from_cons _ _ _ _ rfl (fun q a w hq hD hJ hF F K hK => ?_) ?_
      ·have hz : a.tmps.size = 149 := hF.size
       have e144 : a.tmps[144]? = some (.pointer (some ⟨p, 0, none⟩)) := Inv2.some_slot (by rw [hz]; exact Nat.le_of_ble_eq_true rfl) ((F 9 (by kernel_rfl)).2 144 rfl)
       clear F hF
       clear hz
       go_simp
       exact hK (.pointer (some ⟨p, 0, none⟩)) _ rfl (trivial) (hJ.quiet X (Below.refl _ _) (by decide) (by decide) (by decide) (by decide) (by decide) rfl rfl rfl rfl rfl)
      refine Inv4.from_cons _ _ _ _ rfl (fun q a w hq hD hJ hF F K hK => ?_) ?_
      ·have hz : a.tmps.size = 149 := hF.size
       have e145 : a.tmps[145]? = some (.pointer (some ⟨p, 0, none⟩)) := Inv2.some_slot (by rw [hz]; exact Nat.le_of_ble_eq_true rfl) ((F 10 (by kernel_rfl)).2 145 rfl)
       clear F hF
       clear hz
       have hh := pm_pages X hJ.b.to
       go_simp
       (with_reducible refine hh.mono ?_)
       rintro e' w' ⟨rfl, hb⟩
       go_simp
       exact hK _ _ rfl trivial (hJ.quiet X hb (by decide) (by decide) (by decide) (by decide) (by decide) rfl rfl rfl rfl rfl)
      refine Inv4.from_cons _ _ _ _ rfl (fun q a w hq hD hJ hF F K hK => ?_) ?_
      ·have hz : a.tmps.size = 149 := hF.size
       have b1 := (F 1 (by kernel_rfl)).1
       have b7 := (F 7 (by kernel_rfl)).1
       have e146 : a.tmps[146]? = some (.int .i64 Q.pg) := Inv2.some_slot (by rw [hz]; exact Nat.le_of_ble_eq_true rfl) ((F 11 (by kernel_rfl)).2 146 rfl)
       clear F hF
       obtain ⟨A8, c8, hE8, hr8⟩ := hJ.f1 b1
       obtain ⟨A9, c9, hE9, hr9⟩ := hJ.f7 b7
       have e136 : a.tmps[136]? = some (.slice A8 Q.fl.length c8) := Inv2.some_slot (by rw [hz]; exact Nat.le_of_ble_eq_true rfl) hE8
       have e142 : a.tmps[142]? = some (.slice A9 (U.length + Q.ch.length) c9) := Inv2.some_slot (by rw [hz]; exact Nat.le_of_ble_eq_true rfl) hE9
       clear hz
       have hh := cover_it HC.out HQ.out.1 hr8.row hr9.row (c := c8) (d := c9)
       go_simp
       (with_reducible refine hh.mono ?_)
       rintro e' w' ⟨rfl, hb⟩
       go_simp
       exact hK _ _ rfl trivial (hJ.quiet X hb (by decide) (by decide) (by decide) (by decide) (by decide) rfl rfl rfl rfl rfl)
      refine Inv4.from_cons _ _ _ _ rfl (fun q a w hq hD hJ hF F K hK => ?_) ?_
      ·have hz : a.tmps.size = 149 := hF.size
       have e147 : a.tmps[147]? = some (.bool true) := Inv2.some_slot (by rw [hz]; exact Nat.le_of_ble_eq_true rfl) ((F 12 (by kernel_rfl)).2 147 rfl)
       clear F hF
       clear hz
       go_simp
       exact hK (.bool false) _ rfl (trivial) (hJ.quiet X (Below.refl _ _) (by decide) (by decide) (by decide) (by decide) (by decide) rfl rfl rfl rfl rfl)
      exact Inv4.from_end _ _ _ _ (by decide +kernel)
     ·intro a w hJ hF F
      obtain ⟨f, hf⟩ : ∃ f : Nat → Value, ∀ i, a.tmps.getD i undef = f i := ⟨_, fun _ => rfl⟩
      have hB := hJ.b
      clear hJ
      have g0 : f 0 = (.slice A xs.length cx) := (hf 0).symm.trans (hF.slot 0 (by kernel_rfl))
      have g1 : f 1 = (undef) := (hf 1).symm.trans (hF.slot 1 (by kernel_rfl))
      have g3 : f 3 = (.pointer (some ⟨p, 0, none⟩)) := (hf 3).symm.trans (hF.slot 3 (by kernel_rfl))
      have g4 : f 4 = (.pointer (some ⟨d, 0, none⟩)) := (hf 4).symm.trans (hF.slot 4 (by kernel_rfl))
      have g5 : f 5 = (.slice B5 U.length n5) := (hf 5).symm.trans (hF.slot 5 (by kernel_rfl))
      have g6 : f 6 = (.slice B6 KK.length n6) := (hf 6).symm.trans (hF.slot 6 (by kernel_rfl))
      have g7 : f 7 = (.int .i64 (k : Int)) := (hf 7).symm.trans (hF.slot 7 (by kernel_rfl))
      have g13 : f 13 = (.tuple #[.pointer (some ⟨p, 0, none⟩), .pointer (some ⟨d, 0, none⟩)]) := (hf 13).symm.trans (hF.slot 13 (by kernel_rfl))
      have g14 : f 14 = (.tuple #[.pointer (some ⟨p, 0, none⟩), .pointer (some ⟨d, 0, none⟩)]) := (hf 14).symm.trans (hF.slot 14 (by kernel_rfl))
      have g15 : f 15 = (.pointer (some ⟨p, 0, none⟩)) := (hf 15).symm.trans (hF.slot 15 (by kernel_rfl))
      have g16 : f 16 = (.pointer (some ⟨d, 0, none⟩)) := (hf 16).symm.trans (hF.slot 16 (by kernel_rfl))
      have g17 : f 17 = (.bool true) := (hf 17).symm.trans (hF.slot 17 (by kernel_rfl))
      have g18 : f 18 = (.bool false) := (hf 18).symm.trans (hF.slot 18 (by kernel_rfl))
      have g19 : f 19 = (.bool false) := (hf 19).symm.trans (hF.slot 19 (by kernel_rfl))
      have g20 : f 20 = (.pointer (some ⟨p, 0, none⟩)) := (hf 20).symm.trans (hF.slot 20 (by kernel_rfl))
      have g21 : f 21 = (.bool false) := (hf 21).symm.trans (hF.slot 21 (by kernel_rfl))
      have g22 : f 22 = (.bool false) := (hf 22).symm.trans (hF.slot 22 (by kernel_rfl))
      have g23 : f 23 = (.bool false) := (hf 23).symm.trans (hF.slot 23 (by kernel_rfl))
      have g24 : f 24 = (.pointer (some ⟨d, 0, none⟩)) := (hf 24).symm.trans (hF.slot 24 (by kernel_rfl))
      have g25 : f 25 = (.bool false) := (hf 25).symm.trans (hF.slot 25 (by kernel_rfl))
      have g26 : f 26 = (.bool false) := (hf 26).symm.trans (hF.slot 26 (by kernel_rfl))
      have g27 : f 27 = (.slice (some ⟨w2.heap.size, 0, none⟩) 0 0) := (hf 27).symm.trans (hF.slot 27 (by kernel_rfl))
      have g28 : f 28 = (.slice (some ⟨w2.heap.size + 1, 0, none⟩) 0 0) := (hf 28).symm.trans (hF.slot 28 (by kernel_rfl))
      have g135 : f 135 = (.pointer (some ⟨p, 0, none⟩)) := (hf 135).symm.trans (F 0 135 rfl)
      have g138 : f 138 = (.slice B5 U.length n5) := (hf 138).symm.trans (F 3 138 rfl)
      have g140 : f 140 = (.pointer (some ⟨p, 0, none⟩)) := (hf 140).symm.trans (F 5 140 rfl)
      have g143 : f 143 = (.pointer (some ⟨p, 0, none⟩)) := (hf 143).symm.trans (F 8 143 rfl)
      have g144 : f 144 = (.pointer (some ⟨p, 0, none⟩)) := (hf 144).symm.trans (F 9 144 rfl)
      have g145 : f 145 = (.pointer (some ⟨p, 0, none⟩)) := (hf 145).symm.trans (F 10 145 rfl)
      have g146 : f 146 = (.int .i64 Q.pg) := (hf 146).symm.trans (F 11 146 rfl)
      have g147 : f 147 = (.bool true) := (hf 147).symm.trans (F 12 147 rfl)
      have g148 : f 148 = (.bool false) := (hf 148).symm.trans (F 13 148 rfl)
      have ha := Frames.frame (show a.tmps.size = 149 from hF.size) hF.defers hf (l := [f 0, f 1, f 2, f 3, f 4, f 5, f 6, f 7, f 8, f 9, f 10, f 11, f 12, f 13, f 14, f 15, f 16, f 17, f 18, f 19, f 20, f 21, f 22, f 23, f 24, f 25, f 26, f 27, f 28, f 29, f 30, f 31, f 32, f 33, f 34, f 35, f 36, f 37, f 38, f 39, f 40, f 41, f 42, f 43, f 44, f 45, f 46, f 47, f 48, f 49, f 50, f 51, f 52, f 53, f 54, f 55, f 56, f 57, f 58, f 59, f 60, f 61, f 62, f 63, f 64, f 65, f 66, f 67, f 68, f 69, f 70, f 71, f 72, f 73, f 74, f 75, f 76, f 77, f 78, f 79, f 80, f 81, f 82, f 83, f 84, f 85, f 86, f 87, f 88, f 89, f 90, f 91, f 92, f 93, f 94, f 95, f 96, f 97, f 98, f 99, f 100, f 101, f 102, f 103, f 104, f 105, f 106, f 107, f 108, f 109, f 110, f 111, f 112, f 113, f 114, f 115, f 116, f 117, f 118, f 119, f 120, f 121, f 122, f 123, f 124, f 125, f 126, f 127, f 128, f 129, f 130, f 131, f 132, f 133, f 134, f 135, f 136, f 137, f 138, f 139, f 140, f 141, f 142, f 143, f 144, f 145, f 146, f 147, f 148]) rfl
      simp only [g0, g1, g3, g4, g5, g6, g7, g13, g14, g15, g16, g17, g18, g19, g20, g21, g22, g23, g24, g25, g26, g27, g28, g135, g138, g140, g143, g144, g145, g146, g147, g148] at ha
      clear F hF hf g0 g1 g3 g4 g5 g6 g7 g13 g14 g15 g16 g17 g18 g19 g20 g21 g22 g23 g24 g25 g26 g27 g28 g135 g138 g140 g143 g144 g145 g146 g147 g148
      subst ha
      have hB2 := hB
      go_wp2_with fail
      go_roundw
      case rel => exact ⟨k + 1, Q, _, _, U, KK, B5, n5, B6, n6, by omega, by omega, by go_num, rfl, rfl, hB2.to, hB2.rU, hB2.rK, HC.out, HQ.out.1, HQ.out.2.1, HQ.out.2.2⟩
      case measure => simp [intOf]; omega
end Go.Proofs.YtpidnkfcccboaaaGreat.PagerCovers
