/- PagerChainFrom, PagerOf. -/
import Derived.Test.YtpidnkfcccboaaaGreatKPagerCells
import Derived.Test.YtpidnkfcccboaaaGreatKPagerDrop
import Derived.Test.YtpidnkfcccboaaaGreatKPagerKeep
import Derived.Test.YtpidnkfcccboaaaGreatKPagerRead
namespace Go.Proofs.YtpidnkfcccboaaaGreat.PagerCode
open Go.RowKit Base PagePlain PageSmall FreePlain FreeMem FreePages FreeOf SuperPlain SuperRefCheck PagerPlain PagerTold PagerNum PagerSpec PagerTellP SumOf DiskPlain DiskMem DiskSmall PagerMem PagerDisk Go.Maps
open SumFill (Ready)

/-- the block of a row -/
def Blk_ (A : Option Addr) (i : Nat) : Prop := A.map (·.block) = some i
theorem own_turn {w w' : World} {base c : Nat} {e : TypeId} {A : Option Addr} {xs : List Value} {G : Blks} (h : Own w base e A c xs) (t : Turn G w w') (hG : ∀ i, Blk_ A i → ¬ G i) : Own w' base e A c xs := by
 refine ⟨h.1, ?_⟩
 rcases h.2 with hn | ⟨g, cap, cur, h1, hb, h2, r⟩
 ·exact .inl hn
 ·refine .inr ⟨g, cap, cur, h1, hb, (t.block g (heap_lt h2) (hG g ?_)).trans h2, r⟩
  injection h1 with h1
  rw [h1]
  rfl
theorem own_ty {w : World} {base c i : Nat} {e : TypeId} {A : Option Addr} {xs : List Value} (h : Own w base e A c xs) (hi : Blk_ A i) : ∃ cur, w.heap[i]? = some (.cells cur e (0, 0)) := by
 rcases h.2 with ⟨e1, _⟩ | ⟨g, cap, cur, e1, _, q1, _⟩
 ·injection e1 with e1; rw [e1] at hi; cases hi
 ·injection e1 with e1
  rw [e1] at hi
  have hi : g = i := Option.some.inj hi
  subst hi
  exact ⟨cur, q1⟩
theorem own_lo {w : World} {base c i : Nat} {e : TypeId} {A : Option Addr} {xs : List Value} (h : Own w base e A c xs) (hi : Blk_ A i) : base ≤ i ∧ i < w.heap.size := by
 cases A with
 | none => cases hi
 | some ad =>
  have hi : ad.block = i := Option.some.inj hi
  subst hi
  exact h.block _ rfl
theorem blk_own {A : Option Addr} {n c i : Nat} (h : (Value.slice A n c).ownBlock = some i) : Blk_ A i := by
 cases A with
 | none => cases h
 | some ad => exact h
theorem own_blk_ {A : Option Addr} {n c i : Nat} (h : Blk_ A i) : (Value.slice A n c).ownBlock = some i := by
 cases A with
 | none => cases h
 | some ad => exact h
/-- two rows that grow: of numbers, of texts' slices -/
structure Two_ (lo : Nat) (u0 : World) (K0 L0 : Option Addr) (u : World) (K : Option Addr) (ck : Nat) (is : List Value) (L : Option Addr) (cl : Nat) (ss : List Value) : Prop where
 oi : Own u lo 3 K ck is
 os : Own u lo 37 L cl ss
 turn : Turn (fun i => Blk_ K0 i ∨ Blk_ L0 i) u0 u
 li : ∀ i, Blk_ K i → Blk_ K0 i ∨ u0.heap.size ≤ i
 ls : ∀ i, Blk_ L i → Blk_ L0 i ∨ u0.heap.size ≤ i
section
variable {lo ck cl : Nat} {u0 u u' : World} {K0 L0 K L : Option Addr} {is ss : List Value}
theorem Two_.below (h : Two_ lo u0 K0 L0 u K ck is L cl ss) (hb : Below u.heap.size u u') : Two_ lo u0 K0 L0 u' K ck is L cl ss :=
 ⟨h.oi.later hb, h.os.later hb, h.turn.step (Turn.ofBelow hb), h.li, h.ls⟩
theorem ty_ne {w : World} {base c b : Nat} {e t : TypeId} {A : Option Addr} {xs : List Value} {cs : Array Value} (h : Own w base e A c xs) (ha : At w b t cs) (ht : t ≠ e) : ¬ Blk_ A b := fun z => by
 obtain ⟨cur, q⟩ := own_ty h z
 have ha : w.heap[b]? = _ := ha
 rw [q] at ha
 injection ha with ha
 injection ha with _ h2
 exact ht h2.symm
theorem Two_.appI (h : Two_ lo u0 K0 L0 u K ck is L cl ss) (hlo : lo ≤ u.heap.size) {b : Nat} {v : Value} (hv : v.oneCell' = true) (ha : At u b 3 #[v]) (hn : is.length ≤ 1000) :
  ∃ K' c' u', (Builtin.append_ #[32, 32] 32 #[.slice K is.length ck, .slice (some ⟨b, 0, none⟩) 1 1]).run Tryz.prog u = .ok (.slice K' (is.length + 1) c') u' ∧ Two_ lo u0 K0 L0 u' K' c' (is ++ [v]) L cl ss ∧ u.heap.size ≤ u'.heap.size ∧ ∀ b' t cs, t ≠ 3 → At u b' t cs → At u' b' t cs := by
 have hr : Row u u.heap.size (some ⟨b, 0, none⟩) [v] := by have := row_of_block ha; exact this.more ha.lt
 obtain ⟨K', c', u', hrun, ho, hg, hloc⟩ := FreeMid.run_append_loc (c2 := 1) 32 el_i h.oi hr (by simp) (by simpa using hv) (by simp [maxLen]; omega) (by simp; omega) hlo
 have hns : ∀ i, Blk_ L i → ¬ Blk_ K i := fun i hi hk => by
  obtain ⟨c1, q1⟩ := own_ty h.oi hk
  obtain ⟨c2, q2⟩ := own_ty h.os hi
  rw [q1] at q2
  injection q2 with q2
  injection q2 with _ q
  exact absurd q (by decide)
 have ht : Turn (Blk_ K) u u' := Turn.ofGrown hg fun k e _ => blk_own e
 refine ⟨K', c', u', hrun, ⟨ho, own_turn h.os ht hns, h.turn.trans ht fun i hi hk => ?_, fun i hi => ?_, h.ls⟩, ht.size, fun b' t cs hne hb' => hb'.same (ht.block b' hb'.lt (ty_ne h.oi hb' hne))⟩
 ·rcases h.li i hk with q | q
  ·exact Or.inl q
  ·omega
 ·rcases hloc with q | q
  ·exact h.li i (blk_own (by rw [← q]; exact own_blk_ hi))
  ·have e := own_blk_ (n := is.length + 1) (c := c') hi
   have q2 : (Value.slice K' (is.length + 1) c').ownBlock = some u.heap.size := q
   rw [e] at q2
   injection q2 with q2
   have := h.turn.size
   exact Or.inr (by omega)
theorem Two_.appS (h : Two_ lo u0 K0 L0 u K ck is L cl ss) (hlo : lo ≤ u.heap.size) {b : Nat} {v : Value} (hv : v.oneCell' = true) (ha : At u b 37 #[v]) (hn : ss.length ≤ 1000) :
  ∃ L' c' u', (Builtin.append_ #[119, 119] 119 #[.slice L ss.length cl, .slice (some ⟨b, 0, none⟩) 1 1]).run Tryz.prog u = .ok (.slice L' (ss.length + 1) c') u' ∧ Two_ lo u0 K0 L0 u' K ck is L' c' (ss ++ [v]) ∧ u.heap.size ≤ u'.heap.size ∧ ∀ b' t cs, t ≠ 37 → At u b' t cs → At u' b' t cs := by
 have hr : Row u u.heap.size (some ⟨b, 0, none⟩) [v] := by have := row_of_block ha; exact this.more ha.lt
 obtain ⟨L', c', u', hrun, ho, hg, hloc⟩ := FreeMid.run_append_loc (c2 := 1) 119 FreeCells.el_ss h.os hr (by simp) (by simpa using hv) (by simp [maxLen]; omega) (by simp; omega) hlo
 have hns : ∀ i, Blk_ K i → ¬ Blk_ L i := fun i hk hi => by
  obtain ⟨c1, q1⟩ := own_ty h.oi hk
  obtain ⟨c2, q2⟩ := own_ty h.os hi
  rw [q1] at q2
  injection q2 with q2
  injection q2 with _ q
  exact absurd q (by decide)
 have ht : Turn (Blk_ L) u u' := Turn.ofGrown hg fun k e _ => blk_own e
 refine ⟨L', c', u', hrun, ⟨own_turn h.oi ht hns, ho, h.turn.trans ht fun i hi hk => ?_, h.li, fun i hi => ?_⟩, ht.size, fun b' t cs hne hb' => hb'.same (ht.block b' hb'.lt (ty_ne h.os hb' hne))⟩
 ·rcases h.ls i hk with q | q
  ·exact Or.inr q
  ·omega
 ·rcases hloc with q | q
  ·exact h.ls i (blk_own (by rw [← q]; exact own_blk_ hi))
  ·have e := own_blk_ (n := ss.length + 1) (c := c') hi
   have q2 : (Value.slice L' (ss.length + 1) c').ownBlock = some u.heap.size := q
   rw [e] at q2
   injection q2 with q2
   have := h.turn.size
   exact Or.inr (by omega)
end
section
variable {W w w' : World} {p d g mp : Nat} {S : DS} {P P' : PS} {X Y G : Blks} {m m' : Int} {nn : Nat} {FD : Blks} {A B C : Option Addr} {a b c : Nat}
/-- a chain as a disk tells it -/
structure Chn (P : PS) (ep : Int) (ch : List Int) (l : Fs) : Prop where
 nd : ch.Nodup
 rg : ∀ n ∈ ch, 2 ≤ n ∧ n < P.pg
 rd : ∀ i, i < ch.length → P.rd (ch.getD i 0) = page (chainPg ep ch l i)
 e0 : 0 ≤ ep
 e1 : ep ≤ 4294967295
 pg : P.pg ≤ 300
variable {ep : Int} {ch : List Int} {l : Fs}
theorem Chn.read (h : Chn P ep ch l) {i : Nat} (hi : i < ch.length) : rdP P (ch.getD i 0) = .inr (chainPg ep ch l i) := by
 have hm : ch.getD i 0 ∈ ch := by rw [getD_of hi]; exact List.getElem_mem hi
 have := h.rg _ hm
 exact read_page (P := P) (q := chainPg ep ch l i) this.1 this.2 (chain_err h.e0 h.e1 fun n hn => by have := h.rg n hn; have := h.pg; omega) (h.rd i hi)
theorem Chn.len (h : Chn P ep ch l) (h2 : 2 ≤ P.pg) : (ch.length : Int) ≤ P.pg - 2 := by
 have h1 := h.nd.length_le_of_subset (l₂ := FreeCov.rng (P.pg - 2).toNat) fun n hn => FreeCov.mem_rng.2 ⟨by have := (h.rg n hn).1; omega, by have := (h.rg n hn).2; omega⟩
 rw [FreeCov.len_rng] at h1
 omega
/-- pages' cells, so many of them -/
def first_ (l : Fs) (k : Nat) : Cs := (List.range k).map fun i => cellsAt l i
theorem first_succ (l : Fs) (k : Nat) : first_ l (k + 1) = first_ l k ++ [cellsAt l k] := by simp [first_, List.range_succ]
theorem firstc_len (l : Fs) (k : Nat) : (first_ l k).length = k := by simp [first_]
/-- what chainFrom comes to -/
def ChainPost (W : World) (p d g mp : Nat) (S : DS) (P : PS) (X : Blks) (m : Int) (nn : Nat) (FD : Blks) (A B C : Option Addr) (a b c : Nat) (ch : List Int) (l : Fs) (e : Ending) (w' : World) : Prop := ∃ K ck L cl ps Z, e = .returned (.tuple #[.slice K ch.length ck, .slice L ch.length cl, .bool true]) ∧ Cr w' p d g mp S P Z (m + 400000) nn FD A B C a b c ∧ (∀ i, X i → Z i) ∧
 RowP w' (fun i => Z i ∧ ¬ X i) K (intsV ch) ∧ ch.length ≤ ck ∧ RowP w' Z L (ps.map psv) ∧ (∀ q ∈ ps, RowP w' Z q.1 (strs q.2.2)) ∧ cellsP ps = first_ l ch.length ∧ ch.length ≤ cl ∧ Turn (Not X) W w'
set_option maxRecDepth 100000 in
set_option maxHeartbeats 25600000 in
theorem chainFrom_any (h : Cr W p d g mp S P X m nn FD A B C a b c) (ha : Agree S P) (hm : m ≤ 790000000) {ep : Int} {ch : List Int} {l : Fs} (hc : Chn P ep ch l) (h2 : 2 ≤ P.pg) (no : Int) (hno : no = ch.headD 0) : Calls Tryz.prog 69 #[.pointer (some ⟨p, 0, none⟩), .int .i64 no] W (ChainPost W p d g mp S P X m nn FD A B C a b c ch l) := by
 have hlen := hc.len h2
 have hpg := hc.pg
 have c2 := (pgc h.st).1.2.2
 have HH := Lib.hid h
 have HXL := Lib.hid h.xl
 have HC := Lib.hid hc
 have HA := Lib.hid ha
 have HNO := Lib.hid (show no = ch.getD 0 0 by rw [hno]; cases ch <;> rfl)
 have hm0 : 0 ≤ m := by
  obtain ⟨n, n0, n1, _⟩ := h.su
  omega
 clear h hc ha hno
 go_enter Tryz.func69, Tryz.ntmps69
 go_wp2_with fail
 clear c2
 go_loopw [1, 7, 8, 15] (fun v1 v7 v8 v15 wr => ∃ (k : Nat) (K : Option Addr) (ck : Nat) (L : Option Addr) (cl : Nat) (ps : List Ps) (Z : Blks), k ≤ ch.length ∧ v1 = .int .i64 (ch.getD k 0) ∧ v7 = .slice K k ck ∧ v8 = .slice L k cl ∧ v15 = .int .i64 k ∧ Hid (Own wr W.heap.size 3 K ck (intsV (ch.take k))) ∧ Hid (Own wr W.heap.size 37 L cl (ps.map psv)) ∧ Hid (cellsP ps = first_ l k) ∧ Hid (∀ q ∈ ps, RowP wr (fun i => Z i ∧ ¬ Blk_ K i ∧ ¬ Blk_ L i) q.1 (strs q.2.2)) ∧ Hid (Cr wr p d g mp S P Z (m + 1000 * (k : Int)) nn FD A B C a b c) ∧ Hid (∀ i, X i → Z i) ∧ Hid (∀ i, Z i → X i ∨ W.heap.size ≤ i) ∧ Hid (∀ i, Blk_ K i ∨ Blk_ L i → Z i) ∧ Hid (Turn (Not X) W wr)) (fun _ _ _ v15 _ => ch.length + 1 - (intOf v15).toNat)
 case atStart => exact ⟨0, none, 0, none, 0, [], X, by omega, by rw [HNO.out], rfl, rfl, rfl, show Hid (Own _ _ _ _ _ _) from Own.nil W W.heap.size 3, Own.nil _ _ _, rfl, show Hid (∀ q ∈ ([] : List Ps), _) from fun q hq => (by cases hq), HH.out.up (by simp), fun _ q => q, fun _ q => Or.inl q, show Hid (∀ i, Blk_ none i ∨ Blk_ none i → X i) from fun i hi => hi.elim (fun z => by cases z) (fun z => by cases z), Turn.refl _ _⟩
 case round =>
  obtain ⟨k, K, ck, L, cl, ps, Z, hk, rfl, rfl, rfl, rfl, HOI, HOS, HPS, HIN, HCr, HXZ, HZX, HKL, HT⟩ := hrel
  by_cases hlt : k < ch.length
  rotate_left
  ·obtain rfl : k = ch.length := by omega
   have hz : ch.getD ch.length 0 = 0 := by simp [List.getD]
   rw [hz]
   have hlt2 : ((ch.length : Int) < P.pg) = True := by simp; omega
   have HE := Lib.hid (show ChainPost W p d g mp S P X m nn FD A B C a b c ch l (.returned (.tuple #[.slice K ch.length ck, .slice L ch.length cl, .bool true])) wr from
    ⟨K, ck, L, cl, ps, Z, rfl, HCr.out.up (show m + 1000 * (ch.length : Int) ≤ m + 400000 by omega), HXZ.out, fun j v hv => by
     have ho := HOI.out
     rw [List.take_length] at ho
     obtain ⟨ad, e1, e2, e3, e4⟩ := own_rowP_ ho j v hv
     exact ⟨ad, e1, ⟨HKL.out _ (Or.inl (by rw [e1]; rfl)), fun z => by have := HXL.out _ z; omega⟩, e3, e4⟩,
     by have := HOI.out.cap.1; simpa [intsV] using this, fun j v hv => by
     obtain ⟨ad, e1, e2, e3, e4⟩ := own_rowP_ HOS.out j v hv
     exact ⟨ad, e1, HKL.out _ (Or.inr (by rw [e1]; rfl)), e3, e4⟩,
     fun q hq => (HIN.out q hq).wide fun _ z => z.1, HPS.out, by have h1 := HOS.out.cap.1; have h2 := congrArg List.length HPS.out; rw [firstc_len] at h2; rw [List.length_map] at h1; simp only [cellsP, List.length_map] at h2; omega, HT.out⟩)
   clear hk hz hlt
   go_wp2_with fail
   go_ret3
   exact HE.out
  have hcl : (k : Int) < P.pg := by omega
  have hrd := read_any HCr.out HA.out (by omega) (ch.getD k 0)
  have hdd := HC.out.read hlt
  have hno2 := HC.out.rg _ (by rw [getD_of hlt]; exact List.getElem_mem hlt : ch.getD k 0 ∈ ch)
  have hnz : (ch.getD k 0 == 0) = false := by simpa using (show ch.getD k 0 ≠ 0 by omega)
  have HNXT := Lib.hid (show (chainPg ep ch l k).kind = 3 ∧ (chainPg ep ch l k).link = ch.getD (k + 1) 0 ∧ (chainPg ep ch l k).cells = cellsAt l k ∧ (chainPg ep ch l k).cells.length ≤ 23 from ⟨rfl, rfl, rfl, cellsAt_len l k⟩)
  have HTK := Lib.hid (show intsV (ch.take (k + 1)) = intsV (ch.take k) ++ [.int .i64 (ch.getD k 0)] by rw [List.take_succ_eq_append_getElem hlt, getD_of hlt]; unfold intsV; rw [List.map_append]; rfl)
  have HTL := Lib.hid (show (intsV (ch.take k)).length = k by simp [intsV]; omega)
  have HPL := Lib.hid (show (ps.map psv).length = k by have h2 := congrArg List.length HPS.out; rw [firstc_len] at h2; rw [List.length_map]; simpa [cellsP] using h2)
  generalize hnx : ch.getD (k + 1) 0 = nxt at *
  have HNX2 := Lib.hid hnx
  clear hnx
  generalize ch.getD k 0 = no2 at *
  generalize chainPg ep ch l k = q at *
  clear hno2
  go_wp2_with fail
  (with_reducible refine hrd.mono ?_)
  clear hrd
  rintro e w1 ⟨N, h1, hN, t1, hres⟩
  rw [hdd] at hres
  simp only at hres
  obtain ⟨A1, c1, rfl, r1⟩ := hres
  have hq3 := HNXT.out.1
  have HN := Lib.hid hN
  have o1 := own_turn HOI.out t1 fun i hi z => z (HKL.out i (Or.inl hi))
  have s1 := own_turn HOS.out t1 fun i hi z => z (HKL.out i (Or.inr hi))
  have HW1 := Lib.hid t1.size
  have HWR := Lib.hid (show W.heap.size ≤ wr.heap.size from HT.out.size)
  have HNX := Lib.hid (show ∀ i, Blk_ K i ∨ Blk_ L i → ¬ X i from fun i hi hx => by have h8 := HXL.out i hx; rcases hi with hi | hi; exact absurd (own_lo HOI.out hi).1 (by omega); exact absurd (own_lo HOS.out hi).1 (by omega))
  have HKW := Lib.hid (show ∀ i, Blk_ K i ∨ Blk_ L i → i < wr.heap.size from fun i hi => hi.elim (fun z => (own_lo HOI.out z).2) fun z => (own_lo HOS.out z).2)
  have in1 : ∀ y ∈ ps, RowP w1 (fun i => (Z i ∨ N i) ∧ ¬ Blk_ K i ∧ ¬ Blk_ L i) y.1 (strs y.2.2) := fun y hy => ((HIN.out y hy).turn t1 fun _ z1 z2 => z2 z1.1).wide fun i z => ⟨Or.inl z.1, z.2⟩
  have rq1 : RowP w1 (fun i => (Z i ∨ N i) ∧ ¬ Blk_ K i ∧ ¬ Blk_ L i) A1 (strs q.cells) := r1.wide fun i hi => ⟨Or.inr hi, fun z => by have := HKW.out i (Or.inl z); have := HN.out i hi; omega, fun z => by have := HKW.out i (Or.inr z); have := HN.out i hi; omega⟩
  have HT1 := Lib.hid (show Turn (Not X) W w1 from HT.out.step (t1.mono fun i _ hi hx => hi (HXZ.out i hx)))
  obtain ⟨w2, hw2⟩ : ∃ v, v = w1.alloc (.cells #[.int .i64 q.kind, .int .i64 q.no, .int .i64 q.epoch, .int .i64 q.link, .slice A1 q.cells.length c1] 69) := ⟨_, rfl⟩
  have b2 : Below w1.heap.size w1 w2 := by rw [hw2]; exact al_ _ _
  have a2 : At w2 w1.heap.size 69 #[.int .i64 q.kind, .int .i64 q.no, .int .i64 q.epoch, .int .i64 q.link, .slice A1 q.cells.length c1] := by rw [hw2]; exact heap_alloc_new w1 _
  have e0 : w2.cell? ⟨w1.heap.size, 0, none⟩ = some (.int .i64 3) := by rw [a2.cell, ← hq3]; rfl
  have two2 : Two_ W.heap.size w2 K L w2 K ck (intsV (ch.take k)) L cl (ps.map psv) := ⟨o1.later b2, s1.later b2, Turn.refl _ _, fun _ z => Or.inl z, fun _ z => Or.inl z⟩
  have H2 := Lib.hid (h1.below b2)
  have IN2 := Lib.hid (fun y hy => (in1 y hy).below b2)
  have RQ2 := Lib.hid (rq1.below b2)
  have HT2 := Lib.hid (HT1.out.step (Turn.ofBelow b2))
  have HLO := Lib.hid (show W.heap.size ≤ w2.heap.size from HT2.out.size)
  have HW2 := Lib.hid hw2
  have hqk : (q.kind != 3) = false := by rw [hq3]; rfl
  clear h1 hN t1 r1 o1 s1 in1 rq1 hw2 b2 hq3 hdd HCr HOI HOS HIN HT HT1
  generalize hbx : w1.heap.size = bx at *
  go_upto_region 8 with fail
  try rw [← HW2.out]
  try rw [hbx]
  clear HW2 hbx
  go_upto_region 10 with fail
  clear e0
  refine wp_region_any (by kernel_rfl) ?_
  change wpAny _ _ _ _ _ _ _ (World.drew _)
  obtain ⟨u0, hu0⟩ : ∃ v, v = World.drew w2 := ⟨_, rfl⟩
  rw [← hu0]
  have hbu : Below w2.heap.size w2 u0 := by rw [hu0]; exact (Below.refl _ _).drew
  have two := two2.below hbu
  have aP : At u0 bx _ _ := a2.same (hbu.block _ a2.lt)
  have hlo : W.heap.size ≤ u0.heap.size := Nat.le_trans HLO.out hbu.size
  clear two2 a2 hbu hu0
  refine Reg.take_at (i := 0) (d := 34) (v := ?_) rfl rfl (by kernel_rfl) (by kernel_rfl) (by kernel_rfl) (fun _ _ _ h => h) (Or.inl ⟨by rfl, ?_⟩) ?_
  rotate_left 1
  ·intro w; go_simp <;> with_reducible rfl
  simp only [Act.put, List.setIfInBounds_toArray, List.set_cons_zero, List.set_cons_succ]
  refine Reg.take_at (i := 1) (d := 35) (v := ?_) rfl rfl (by kernel_rfl) (by kernel_rfl) (by kernel_rfl) (fun _ _ _ h => h) (Or.inl ⟨by rfl, ?_⟩) ?_
  rotate_left 1
  ·intro w; go_simp <;> with_reducible rfl
  simp only [Act.put, List.setIfInBounds_toArray, List.set_cons_zero, List.set_cons_succ]
  refine Reg.take_at (i := 4) (d := 38) (v := ?_) rfl rfl (by kernel_rfl) (by kernel_rfl) (by kernel_rfl) (fun _ _ _ h => h) (Or.inl ⟨by rfl, ?_⟩) ?_
  rotate_left 1
  ·intro w; go_simp <;> with_reducible rfl
  simp only [Act.put, List.setIfInBounds_toArray, List.set_cons_zero, List.set_cons_succ]
  refine Reg.take_at (i := 5) (d := 39) (v := ?_) rfl rfl (by kernel_rfl) (by kernel_rfl) (by kernel_rfl) (fun _ _ _ h => h) (Or.inl ⟨by rfl, ?_⟩) ?_
  rotate_left 1
  ·intro w; go_simp <;> with_reducible rfl
  simp only [Act.put, List.setIfInBounds_toArray, List.set_cons_zero, List.set_cons_succ]
  refine wpAny_ready (rs := [2, 6]) (by decide +kernel) (by simp) ?_
  refine AllReady.cons rfl (fun KK hK => ?_) ?_
  ·go_simp
   refine hK _ _ ?_
   clear hK KK
   obtain ⟨u1, hw⟩ : ∃ v, v = u0.alloc (.cells #[.int .i64 no2] 3) := ⟨_, rfl⟩
   rw [← hw]
   have hb : Below u0.heap.size u0 u1 := by rw [hw]; exact al_ _ _
   have two := two.below hb
   have aI : At u1 u0.heap.size 3 #[.int .i64 no2] := by rw [hw]; exact heap_alloc_new u0 _
   have aP := aP.same (hb.block _ aP.lt)
   have hlo : W.heap.size ≤ u1.heap.size := Nat.le_trans hlo hb.size
   clear hb hw
   generalize u0.heap.size = bI at aI ⊢
   refine wpAny_ready (rs := [3, 6]) (by decide +kernel) (by simp) ?_
   refine AllReady.cons rfl (fun KK hK => ?_) ?_
   ·obtain ⟨K5, c5, u2, hrun, two, hsz, hat⟩ := two.appI hlo (by simp [Value.oneCell']) aI (by rw [HTL.out]; omega)
    rw [HTL.out] at hrun
    have aP := hat _ _ _ (by decide) aP
    have hlo : W.heap.size ≤ u2.heap.size := Nat.le_trans hlo hsz
    refine FreeCellsOf.step_append_d (d := 37) rfl rfl (.tmp 34) (.tmp 36) 32 32 rfl (vs := .slice K k ck) (vx := .slice (some ⟨bI, 0, none⟩) 1 1) (by simp [Act.eval]) (by simp [Act.eval]) hrun ?_
    refine hK _ _ ?_
    clear hK KK hrun hat hsz aI
    simp only [Act.put, List.setIfInBounds_toArray, List.set_cons_zero, List.set_cons_succ]
    refine wpAny_ready (rs := [6]) (by decide +kernel) (by simp) ?_
    refine AllReady.cons rfl (fun KK hK => ?_) AllReady.nil
    have e4 : u2.cell? ⟨bx, 4, none⟩ = some (.slice A1 q.cells.length c1) := by rw [aP.cell]; rfl
    go_simp
    refine hK _ _ ?_
    clear hK KK e4
    refine wpAny_ready (rs := [7]) (by decide +kernel) (by simp) ?_
    refine AllReady.cons rfl (fun KK hK => ?_) AllReady.nil
    go_simp
    refine hK _ _ ?_
    clear hK KK
    obtain ⟨u3, hw⟩ : ∃ v, v = u2.alloc (.cells #[.slice A1 q.cells.length c1] 37) := ⟨_, rfl⟩
    rw [← hw]
    have hb : Below u2.heap.size u2 u3 := by rw [hw]; exact al_ _ _
    have two := two.below hb
    have aS : At u3 u2.heap.size 37 #[.slice A1 q.cells.length c1] := by rw [hw]; exact heap_alloc_new u2 _
    have aP := aP.same (hb.block _ aP.lt)
    have hlo : W.heap.size ≤ u3.heap.size := Nat.le_trans hlo hb.size
    clear hb hw
    generalize u2.heap.size = bS at aS ⊢
    refine wpAny_ready (rs := [8]) (by decide +kernel) (by simp) ?_
    refine AllReady.cons rfl (fun KK hK => ?_) AllReady.nil
    obtain ⟨L5, d5, u4, hrun, two, hsz, hat⟩ := two.appS hlo (by simp [Value.oneCell']) aS (by rw [HPL.out]; omega)
    rw [HPL.out] at hrun
    have aP := hat _ _ _ (by decide) aP
    refine FreeCellsOf.step_append_d (d := 42) rfl rfl (.tmp 38) (.tmp 41) 119 119 rfl (vs := .slice L k cl) (vx := .slice (some ⟨bS, 0, none⟩) 1 1) (by simp [Act.eval]) (by simp [Act.eval]) hrun ?_
    refine hK _ _ ?_
    clear hK KK hrun hat hsz aS
    simp only [Act.put, List.setIfInBounds_toArray, List.set_cons_zero, List.set_cons_succ]
    refine Reg.take_at (i := 9) (d := 7) (v := ?_) rfl rfl (by kernel_rfl) (by kernel_rfl) (by kernel_rfl) (fun _ _ _ h => h) (Or.inl ⟨by rfl, ?_⟩) ?_
    rotate_left 1
    ·intro w; go_simp <;> with_reducible rfl
    simp only [Act.put, List.setIfInBounds_toArray, List.set_cons_zero, List.set_cons_succ]
    refine Reg.take_at (i := 10) (d := 8) (v := ?_) rfl rfl (by kernel_rfl) (by kernel_rfl) (by kernel_rfl) (fun _ _ _ h => h) (Or.inl ⟨by rfl, ?_⟩) ?_
    rotate_left 1
    ·intro w; go_simp <;> with_reducible rfl
    simp only [Act.put, List.setIfInBounds_toArray, List.set_cons_zero, List.set_cons_succ]
    refine wpAny_done (by kernel_rfl) ?_ _
    have e3 : u4.cell? ⟨bx, 3, none⟩ = some (.int .i64 q.link) := by rw [aP.cell]; rfl
    have h5 := (H2.out.moreT two.turn fun i _ hx z => hx (Or.inl (HKL.out i z)))
    have hsz := two.turn.size
    have HOI := Lib.hid (show Own u4 W.heap.size 3 K5 c5 (intsV (ch.take (k + 1))) by rw [HTK.out]; exact two.oi)
    have HOS := Lib.hid (show Own u4 W.heap.size 37 L5 d5 ((ps ++ [(A1, c1, q.cells)]).map psv) by rw [List.map_append]; exact two.os)
    have HPS5 := Lib.hid (show cellsP (ps ++ [(A1, c1, q.cells)]) = first_ l (k + 1) by rw [first_succ, ← HPS.out, HNXT.out.2.2.1]; unfold cellsP; rw [List.map_append]; rfl)
    have hfar : ∀ {y1 : Option Addr} {vs : List Value}, RowP w2 (fun i => (Z i ∨ N i) ∧ ¬ Blk_ K i ∧ ¬ Blk_ L i) y1 vs → RowP u4 (fun i => Plus (fun i => Z i ∨ N i) w2 u4 i ∧ ¬ Blk_ K5 i ∧ ¬ Blk_ L5 i) y1 vs := fun hy j v hv => by
     obtain ⟨ad, e1, e2, e3, e4⟩ := hy.turn two.turn (fun i z1 z2 => z2.elim z1.2.1 z1.2.2) j v hv
     obtain ⟨ad', e1', _, e3', _⟩ := hy j v hv
     rw [e1] at e1'; injection e1' with e1'; subst e1'
     exact ⟨ad, e1, ⟨Or.inl e2.1, fun z => (two.li _ z).elim e2.2.1 (fun z2 => by omega), fun z => (two.ls _ z).elim e2.2.2 (fun z2 => by omega)⟩, e3, e4⟩
    have HIN := Lib.hid (show ∀ y ∈ ps ++ [(A1, c1, q.cells)], RowP u4 (fun i => Plus (fun i => Z i ∨ N i) w2 u4 i ∧ ¬ Blk_ K5 i ∧ ¬ Blk_ L5 i) y.1 (strs y.2.2) from fun y hy => by
     rcases List.mem_append.1 hy with hy | hy
     ·exact hfar (IN2.out y hy)
     ·rw [List.mem_singleton.1 hy]; exact hfar RQ2.out)
    have HCR := Lib.hid (h5.up (show m + 1000 * (k : Int) + 1000 ≤ m + 1000 * ((k + 1 : Nat) : Int) by push_cast; omega))
    have HKL5 := Lib.hid (show ∀ i, Blk_ K5 i ∨ Blk_ L5 i → Plus (fun i => Z i ∨ N i) w2 u4 i from fun i hi => by
     rcases hi with hi | hi
     ·rcases two.li i hi with z | z
      ·exact Or.inl (Or.inl (HKL.out i (Or.inl z)))
      ·exact Or.inr ⟨z, (own_lo two.oi hi).2⟩
     ·rcases two.ls i hi with z | z
      ·exact Or.inl (Or.inl (HKL.out i (Or.inr z)))
      ·exact Or.inr ⟨z, (own_lo two.os hi).2⟩)
    have HT5 := Lib.hid (HT2.out.step (two.turn.mono fun i _ hi hx => by
     have h9 := HKL.out i hi
     have h8 := HXL.out i hx
     rcases hi with hi | hi
     ·exact HNX.out i (Or.inl hi) hx
     ·exact HNX.out i (Or.inr hi) hx))
    have HXZ5 := Lib.hid (show ∀ i, X i → Plus (fun i => Z i ∨ N i) w2 u4 i from fun i hi => Or.inl (Or.inl (HXZ.out i hi)))
    have HZX5 := Lib.hid (show ∀ i, Plus (fun i => Z i ∨ N i) w2 u4 i → X i ∨ W.heap.size ≤ i from fun i hi => by
     rcases hi with (hi | hi) | hi
     ·exact HZX.out i hi
     ·exact Or.inr (Nat.le_trans HWR.out (HN.out i hi))
     ·exact Or.inr (Nat.le_trans HLO.out hi.1))
    clear two h5 hfar aP hsz hlo
    go_wp2_with fail
    go_roundw
    case rel => exact ⟨k + 1, K5, c5, L5, d5, ps ++ [(A1, c1, q.cells)], _, by omega, by rw [HNXT.out.2.1, HNX2.out], rfl, rfl, by go_num, HOI.out, HOS.out, HPS5.out, HIN.out, HCR.out, HXZ5.out, HZX5.out, HKL5.out, HT5.out⟩
    case measure => simp [intOf]; omega
   refine AllReady.cons rfl (fun KK hK => ?_) AllReady.nil
   have e4 : u1.cell? ⟨bx, 4, none⟩ = some (.slice A1 q.cells.length c1) := by rw [aP.cell]; rfl
   go_simp
   refine hK _ _ ?_
   clear hK KK e4
   refine wpAny_ready (rs := [3, 7]) (by decide +kernel) (by simp) ?_
   refine AllReady.cons rfl (fun KK hK => ?_) ?_
   ·obtain ⟨K5, c5, u2, hrun, two, hsz, hat⟩ := two.appI hlo (by simp [Value.oneCell']) aI (by rw [HTL.out]; omega)
    rw [HTL.out] at hrun
    have aP := hat _ _ _ (by decide) aP
    have hlo : W.heap.size ≤ u2.heap.size := Nat.le_trans hlo hsz
    refine FreeCellsOf.step_append_d (d := 37) rfl rfl (.tmp 34) (.tmp 36) 32 32 rfl (vs := .slice K k ck) (vx := .slice (some ⟨bI, 0, none⟩) 1 1) (by simp [Act.eval]) (by simp [Act.eval]) hrun ?_
    refine hK _ _ ?_
    clear hK KK hrun hat hsz aI
    simp only [Act.put, List.setIfInBounds_toArray, List.set_cons_zero, List.set_cons_succ]
    refine wpAny_ready (rs := [7]) (by decide +kernel) (by simp) ?_
    refine AllReady.cons rfl (fun KK hK => ?_) AllReady.nil
    go_simp
    refine hK _ _ ?_
    clear hK KK
    obtain ⟨u3, hw⟩ : ∃ v, v = u2.alloc (.cells #[.slice A1 q.cells.length c1] 37) := ⟨_, rfl⟩
    rw [← hw]
    have hb : Below u2.heap.size u2 u3 := by rw [hw]; exact al_ _ _
    have two := two.below hb
    have aS : At u3 u2.heap.size 37 #[.slice A1 q.cells.length c1] := by rw [hw]; exact heap_alloc_new u2 _
    have aP := aP.same (hb.block _ aP.lt)
    have hlo : W.heap.size ≤ u3.heap.size := Nat.le_trans hlo hb.size
    clear hb hw
    generalize u2.heap.size = bS at aS ⊢
    refine wpAny_ready (rs := [8]) (by decide +kernel) (by simp) ?_
    refine AllReady.cons rfl (fun KK hK => ?_) AllReady.nil
    obtain ⟨L5, d5, u4, hrun, two, hsz, hat⟩ := two.appS hlo (by simp [Value.oneCell']) aS (by rw [HPL.out]; omega)
    rw [HPL.out] at hrun
    have aP := hat _ _ _ (by decide) aP
    refine FreeCellsOf.step_append_d (d := 42) rfl rfl (.tmp 38) (.tmp 41) 119 119 rfl (vs := .slice L k cl) (vx := .slice (some ⟨bS, 0, none⟩) 1 1) (by simp [Act.eval]) (by simp [Act.eval]) hrun ?_
    refine hK _ _ ?_
    clear hK KK hrun hat hsz aS
    simp only [Act.put, List.setIfInBounds_toArray, List.set_cons_zero, List.set_cons_succ]
    refine Reg.take_at (i := 9) (d := 7) (v := ?_) rfl rfl (by kernel_rfl) (by kernel_rfl) (by kernel_rfl) (fun _ _ _ h => h) (Or.inl ⟨by rfl, ?_⟩) ?_
    rotate_left 1
    ·intro w; go_simp <;> with_reducible rfl
    simp only [Act.put, List.setIfInBounds_toArray, List.set_cons_zero, List.set_cons_succ]
    refine Reg.take_at (i := 10) (d := 8) (v := ?_) rfl rfl (by kernel_rfl) (by kernel_rfl) (by kernel_rfl) (fun _ _ _ h => h) (Or.inl ⟨by rfl, ?_⟩) ?_
    rotate_left 1
    ·intro w; go_simp <;> with_reducible rfl
    simp only [Act.put, List.setIfInBounds_toArray, List.set_cons_zero, List.set_cons_succ]
    refine wpAny_done (by kernel_rfl) ?_ _
    have e3 : u4.cell? ⟨bx, 3, none⟩ = some (.int .i64 q.link) := by rw [aP.cell]; rfl
    have h5 := (H2.out.moreT two.turn fun i _ hx z => hx (Or.inl (HKL.out i z)))
    have hsz := two.turn.size
    have HOI := Lib.hid (show Own u4 W.heap.size 3 K5 c5 (intsV (ch.take (k + 1))) by rw [HTK.out]; exact two.oi)
    have HOS := Lib.hid (show Own u4 W.heap.size 37 L5 d5 ((ps ++ [(A1, c1, q.cells)]).map psv) by rw [List.map_append]; exact two.os)
    have HPS5 := Lib.hid (show cellsP (ps ++ [(A1, c1, q.cells)]) = first_ l (k + 1) by rw [first_succ, ← HPS.out, HNXT.out.2.2.1]; unfold cellsP; rw [List.map_append]; rfl)
    have hfar : ∀ {y1 : Option Addr} {vs : List Value}, RowP w2 (fun i => (Z i ∨ N i) ∧ ¬ Blk_ K i ∧ ¬ Blk_ L i) y1 vs → RowP u4 (fun i => Plus (fun i => Z i ∨ N i) w2 u4 i ∧ ¬ Blk_ K5 i ∧ ¬ Blk_ L5 i) y1 vs := fun hy j v hv => by
     obtain ⟨ad, e1, e2, e3, e4⟩ := hy.turn two.turn (fun i z1 z2 => z2.elim z1.2.1 z1.2.2) j v hv
     obtain ⟨ad', e1', _, e3', _⟩ := hy j v hv
     rw [e1] at e1'; injection e1' with e1'; subst e1'
     exact ⟨ad, e1, ⟨Or.inl e2.1, fun z => (two.li _ z).elim e2.2.1 (fun z2 => by omega), fun z => (two.ls _ z).elim e2.2.2 (fun z2 => by omega)⟩, e3, e4⟩
    have HIN := Lib.hid (show ∀ y ∈ ps ++ [(A1, c1, q.cells)], RowP u4 (fun i => Plus (fun i => Z i ∨ N i) w2 u4 i ∧ ¬ Blk_ K5 i ∧ ¬ Blk_ L5 i) y.1 (strs y.2.2) from fun y hy => by
     rcases List.mem_append.1 hy with hy | hy
     ·exact hfar (IN2.out y hy)
     ·rw [List.mem_singleton.1 hy]; exact hfar RQ2.out)
    have HCR := Lib.hid (h5.up (show m + 1000 * (k : Int) + 1000 ≤ m + 1000 * ((k + 1 : Nat) : Int) by push_cast; omega))
    have HKL5 := Lib.hid (show ∀ i, Blk_ K5 i ∨ Blk_ L5 i → Plus (fun i => Z i ∨ N i) w2 u4 i from fun i hi => by
     rcases hi with hi | hi
     ·rcases two.li i hi with z | z
      ·exact Or.inl (Or.inl (HKL.out i (Or.inl z)))
      ·exact Or.inr ⟨z, (own_lo two.oi hi).2⟩
     ·rcases two.ls i hi with z | z
      ·exact Or.inl (Or.inl (HKL.out i (Or.inr z)))
      ·exact Or.inr ⟨z, (own_lo two.os hi).2⟩)
    have HT5 := Lib.hid (HT2.out.step (two.turn.mono fun i _ hi hx => by
     have h9 := HKL.out i hi
     have h8 := HXL.out i hx
     rcases hi with hi | hi
     ·exact HNX.out i (Or.inl hi) hx
     ·exact HNX.out i (Or.inr hi) hx))
    have HXZ5 := Lib.hid (show ∀ i, X i → Plus (fun i => Z i ∨ N i) w2 u4 i from fun i hi => Or.inl (Or.inl (HXZ.out i hi)))
    have HZX5 := Lib.hid (show ∀ i, Plus (fun i => Z i ∨ N i) w2 u4 i → X i ∨ W.heap.size ≤ i from fun i hi => by
     rcases hi with (hi | hi) | hi
     ·exact HZX.out i hi
     ·exact Or.inr (Nat.le_trans HWR.out (HN.out i hi))
     ·exact Or.inr (Nat.le_trans HLO.out hi.1))
    clear two h5 hfar aP hsz hlo
    go_wp2_with fail
    go_roundw
    case rel => exact ⟨k + 1, K5, c5, L5, d5, ps ++ [(A1, c1, q.cells)], _, by omega, by rw [HNXT.out.2.1, HNX2.out], rfl, rfl, by go_num, HOI.out, HOS.out, HPS5.out, HIN.out, HCR.out, HXZ5.out, HZX5.out, HKL5.out, HT5.out⟩
    case measure => simp [intOf]; omega
   refine AllReady.cons rfl (fun KK hK => ?_) AllReady.nil
   go_simp
   refine hK _ _ ?_
   clear hK KK
   obtain ⟨u2, hw⟩ : ∃ v, v = u1.alloc (.cells #[.slice A1 q.cells.length c1] 37) := ⟨_, rfl⟩
   rw [← hw]
   have hb : Below u1.heap.size u1 u2 := by rw [hw]; exact al_ _ _
   have two := two.below hb
   have aS : At u2 u1.heap.size 37 #[.slice A1 q.cells.length c1] := by rw [hw]; exact heap_alloc_new u1 _
   have aP := aP.same (hb.block _ aP.lt)
   have hlo : W.heap.size ≤ u2.heap.size := Nat.le_trans hlo hb.size
   have aI := aI.same (hb.block _ aI.lt)
   clear hb hw
   generalize u1.heap.size = bS at aS ⊢
   refine wpAny_ready (rs := [3]) (by decide +kernel) (by simp) ?_
   refine AllReady.cons rfl (fun KK hK => ?_) AllReady.nil
   obtain ⟨K5, c5, u3, hrun, two, hsz, hat⟩ := two.appI hlo (by simp [Value.oneCell']) aI (by rw [HTL.out]; omega)
   rw [HTL.out] at hrun
   have aP := hat _ _ _ (by decide) aP
   have hlo : W.heap.size ≤ u3.heap.size := Nat.le_trans hlo hsz
   have aS := hat _ _ _ (by decide) aS
   refine FreeCellsOf.step_append_d (d := 37) rfl rfl (.tmp 34) (.tmp 36) 32 32 rfl (vs := .slice K k ck) (vx := .slice (some ⟨bI, 0, none⟩) 1 1) (by simp [Act.eval]) (by simp [Act.eval]) hrun ?_
   refine hK _ _ ?_
   clear hK KK hrun hat hsz aI
   simp only [Act.put, List.setIfInBounds_toArray, List.set_cons_zero, List.set_cons_succ]
   refine wpAny_ready (rs := [8]) (by decide +kernel) (by simp) ?_
   refine AllReady.cons rfl (fun KK hK => ?_) AllReady.nil
   obtain ⟨L5, d5, u4, hrun, two, hsz, hat⟩ := two.appS hlo (by simp [Value.oneCell']) aS (by rw [HPL.out]; omega)
   rw [HPL.out] at hrun
   have aP := hat _ _ _ (by decide) aP
   refine FreeCellsOf.step_append_d (d := 42) rfl rfl (.tmp 38) (.tmp 41) 119 119 rfl (vs := .slice L k cl) (vx := .slice (some ⟨bS, 0, none⟩) 1 1) (by simp [Act.eval]) (by simp [Act.eval]) hrun ?_
   refine hK _ _ ?_
   clear hK KK hrun hat hsz aS
   simp only [Act.put, List.setIfInBounds_toArray, List.set_cons_zero, List.set_cons_succ]
   refine Reg.take_at (i := 9) (d := 7) (v := ?_) rfl rfl (by kernel_rfl) (by kernel_rfl) (by kernel_rfl) (fun _ _ _ h => h) (Or.inl ⟨by rfl, ?_⟩) ?_
   rotate_left 1
   ·intro w; go_simp <;> with_reducible rfl
   simp only [Act.put, List.setIfInBounds_toArray, List.set_cons_zero, List.set_cons_succ]
   refine Reg.take_at (i := 10) (d := 8) (v := ?_) rfl rfl (by kernel_rfl) (by kernel_rfl) (by kernel_rfl) (fun _ _ _ h => h) (Or.inl ⟨by rfl, ?_⟩) ?_
   rotate_left 1
   ·intro w; go_simp <;> with_reducible rfl
   simp only [Act.put, List.setIfInBounds_toArray, List.set_cons_zero, List.set_cons_succ]
   refine wpAny_done (by kernel_rfl) ?_ _
   have e3 : u4.cell? ⟨bx, 3, none⟩ = some (.int .i64 q.link) := by rw [aP.cell]; rfl
   have h5 := (H2.out.moreT two.turn fun i _ hx z => hx (Or.inl (HKL.out i z)))
   have hsz := two.turn.size
   have HOI := Lib.hid (show Own u4 W.heap.size 3 K5 c5 (intsV (ch.take (k + 1))) by rw [HTK.out]; exact two.oi)
   have HOS := Lib.hid (show Own u4 W.heap.size 37 L5 d5 ((ps ++ [(A1, c1, q.cells)]).map psv) by rw [List.map_append]; exact two.os)
   have HPS5 := Lib.hid (show cellsP (ps ++ [(A1, c1, q.cells)]) = first_ l (k + 1) by rw [first_succ, ← HPS.out, HNXT.out.2.2.1]; unfold cellsP; rw [List.map_append]; rfl)
   have hfar : ∀ {y1 : Option Addr} {vs : List Value}, RowP w2 (fun i => (Z i ∨ N i) ∧ ¬ Blk_ K i ∧ ¬ Blk_ L i) y1 vs → RowP u4 (fun i => Plus (fun i => Z i ∨ N i) w2 u4 i ∧ ¬ Blk_ K5 i ∧ ¬ Blk_ L5 i) y1 vs := fun hy j v hv => by
    obtain ⟨ad, e1, e2, e3, e4⟩ := hy.turn two.turn (fun i z1 z2 => z2.elim z1.2.1 z1.2.2) j v hv
    obtain ⟨ad', e1', _, e3', _⟩ := hy j v hv
    rw [e1] at e1'; injection e1' with e1'; subst e1'
    exact ⟨ad, e1, ⟨Or.inl e2.1, fun z => (two.li _ z).elim e2.2.1 (fun z2 => by omega), fun z => (two.ls _ z).elim e2.2.2 (fun z2 => by omega)⟩, e3, e4⟩
   have HIN := Lib.hid (show ∀ y ∈ ps ++ [(A1, c1, q.cells)], RowP u4 (fun i => Plus (fun i => Z i ∨ N i) w2 u4 i ∧ ¬ Blk_ K5 i ∧ ¬ Blk_ L5 i) y.1 (strs y.2.2) from fun y hy => by
    rcases List.mem_append.1 hy with hy | hy
    ·exact hfar (IN2.out y hy)
    ·rw [List.mem_singleton.1 hy]; exact hfar RQ2.out)
   have HCR := Lib.hid (h5.up (show m + 1000 * (k : Int) + 1000 ≤ m + 1000 * ((k + 1 : Nat) : Int) by push_cast; omega))
   have HKL5 := Lib.hid (show ∀ i, Blk_ K5 i ∨ Blk_ L5 i → Plus (fun i => Z i ∨ N i) w2 u4 i from fun i hi => by
    rcases hi with hi | hi
    ·rcases two.li i hi with z | z
     ·exact Or.inl (Or.inl (HKL.out i (Or.inl z)))
     ·exact Or.inr ⟨z, (own_lo two.oi hi).2⟩
    ·rcases two.ls i hi with z | z
     ·exact Or.inl (Or.inl (HKL.out i (Or.inr z)))
     ·exact Or.inr ⟨z, (own_lo two.os hi).2⟩)
   have HT5 := Lib.hid (HT2.out.step (two.turn.mono fun i _ hi hx => by
    have h9 := HKL.out i hi
    have h8 := HXL.out i hx
    rcases hi with hi | hi
    ·exact HNX.out i (Or.inl hi) hx
    ·exact HNX.out i (Or.inr hi) hx))
   have HXZ5 := Lib.hid (show ∀ i, X i → Plus (fun i => Z i ∨ N i) w2 u4 i from fun i hi => Or.inl (Or.inl (HXZ.out i hi)))
   have HZX5 := Lib.hid (show ∀ i, Plus (fun i => Z i ∨ N i) w2 u4 i → X i ∨ W.heap.size ≤ i from fun i hi => by
    rcases hi with (hi | hi) | hi
    ·exact HZX.out i hi
    ·exact Or.inr (Nat.le_trans HWR.out (HN.out i hi))
    ·exact Or.inr (Nat.le_trans HLO.out hi.1))
   clear two h5 hfar aP hsz hlo
   go_wp2_with fail
   go_roundw
   case rel => exact ⟨k + 1, K5, c5, L5, d5, ps ++ [(A1, c1, q.cells)], _, by omega, by rw [HNXT.out.2.1, HNX2.out], rfl, rfl, by go_num, HOI.out, HOS.out, HPS5.out, HIN.out, HCR.out, HXZ5.out, HZX5.out, HKL5.out, HT5.out⟩
   case measure => simp [intOf]; omega
  refine AllReady.cons rfl (fun KK hK => ?_) AllReady.nil
  have e4 : u0.cell? ⟨bx, 4, none⟩ = some (.slice A1 q.cells.length c1) := by rw [aP.cell]; rfl
  go_simp
  refine hK _ _ ?_
  clear hK KK e4
  refine wpAny_ready (rs := [2, 7]) (by decide +kernel) (by simp) ?_
  refine AllReady.cons rfl (fun KK hK => ?_) ?_
  ·go_simp
   refine hK _ _ ?_
   clear hK KK
   obtain ⟨u1, hw⟩ : ∃ v, v = u0.alloc (.cells #[.int .i64 no2] 3) := ⟨_, rfl⟩
   rw [← hw]
   have hb : Below u0.heap.size u0 u1 := by rw [hw]; exact al_ _ _
   have two := two.below hb
   have aI : At u1 u0.heap.size 3 #[.int .i64 no2] := by rw [hw]; exact heap_alloc_new u0 _
   have aP := aP.same (hb.block _ aP.lt)
   have hlo : W.heap.size ≤ u1.heap.size := Nat.le_trans hlo hb.size
   clear hb hw
   generalize u0.heap.size = bI at aI ⊢
   refine wpAny_ready (rs := [3, 7]) (by decide +kernel) (by simp) ?_
   refine AllReady.cons rfl (fun KK hK => ?_) ?_
   ·obtain ⟨K5, c5, u2, hrun, two, hsz, hat⟩ := two.appI hlo (by simp [Value.oneCell']) aI (by rw [HTL.out]; omega)
    rw [HTL.out] at hrun
    have aP := hat _ _ _ (by decide) aP
    have hlo : W.heap.size ≤ u2.heap.size := Nat.le_trans hlo hsz
    refine FreeCellsOf.step_append_d (d := 37) rfl rfl (.tmp 34) (.tmp 36) 32 32 rfl (vs := .slice K k ck) (vx := .slice (some ⟨bI, 0, none⟩) 1 1) (by simp [Act.eval]) (by simp [Act.eval]) hrun ?_
    refine hK _ _ ?_
    clear hK KK hrun hat hsz aI
    simp only [Act.put, List.setIfInBounds_toArray, List.set_cons_zero, List.set_cons_succ]
    refine wpAny_ready (rs := [7]) (by decide +kernel) (by simp) ?_
    refine AllReady.cons rfl (fun KK hK => ?_) AllReady.nil
    go_simp
    refine hK _ _ ?_
    clear hK KK
    obtain ⟨u3, hw⟩ : ∃ v, v = u2.alloc (.cells #[.slice A1 q.cells.length c1] 37) := ⟨_, rfl⟩
    rw [← hw]
    have hb : Below u2.heap.size u2 u3 := by rw [hw]; exact al_ _ _
    have two := two.below hb
    have aS : At u3 u2.heap.size 37 #[.slice A1 q.cells.length c1] := by rw [hw]; exact heap_alloc_new u2 _
    have aP := aP.same (hb.block _ aP.lt)
    have hlo : W.heap.size ≤ u3.heap.size := Nat.le_trans hlo hb.size
    clear hb hw
    generalize u2.heap.size = bS at aS ⊢
    refine wpAny_ready (rs := [8]) (by decide +kernel) (by simp) ?_
    refine AllReady.cons rfl (fun KK hK => ?_) AllReady.nil
    obtain ⟨L5, d5, u4, hrun, two, hsz, hat⟩ := two.appS hlo (by simp [Value.oneCell']) aS (by rw [HPL.out]; omega)
    rw [HPL.out] at hrun
    have aP := hat _ _ _ (by decide) aP
    refine FreeCellsOf.step_append_d (d := 42) rfl rfl (.tmp 38) (.tmp 41) 119 119 rfl (vs := .slice L k cl) (vx := .slice (some ⟨bS, 0, none⟩) 1 1) (by simp [Act.eval]) (by simp [Act.eval]) hrun ?_
    refine hK _ _ ?_
    clear hK KK hrun hat hsz aS
    simp only [Act.put, List.setIfInBounds_toArray, List.set_cons_zero, List.set_cons_succ]
    refine Reg.take_at (i := 9) (d := 7) (v := ?_) rfl rfl (by kernel_rfl) (by kernel_rfl) (by kernel_rfl) (fun _ _ _ h => h) (Or.inl ⟨by rfl, ?_⟩) ?_
    rotate_left 1
    ·intro w; go_simp <;> with_reducible rfl
    simp only [Act.put, List.setIfInBounds_toArray, List.set_cons_zero, List.set_cons_succ]
    refine Reg.take_at (i := 10) (d := 8) (v := ?_) rfl rfl (by kernel_rfl) (by kernel_rfl) (by kernel_rfl) (fun _ _ _ h => h) (Or.inl ⟨by rfl, ?_⟩) ?_
    rotate_left 1
    ·intro w; go_simp <;> with_reducible rfl
    simp only [Act.put, List.setIfInBounds_toArray, List.set_cons_zero, List.set_cons_succ]
    refine wpAny_done (by kernel_rfl) ?_ _
    have e3 : u4.cell? ⟨bx, 3, none⟩ = some (.int .i64 q.link) := by rw [aP.cell]; rfl
    have h5 := (H2.out.moreT two.turn fun i _ hx z => hx (Or.inl (HKL.out i z)))
    have hsz := two.turn.size
    have HOI := Lib.hid (show Own u4 W.heap.size 3 K5 c5 (intsV (ch.take (k + 1))) by rw [HTK.out]; exact two.oi)
    have HOS := Lib.hid (show Own u4 W.heap.size 37 L5 d5 ((ps ++ [(A1, c1, q.cells)]).map psv) by rw [List.map_append]; exact two.os)
    have HPS5 := Lib.hid (show cellsP (ps ++ [(A1, c1, q.cells)]) = first_ l (k + 1) by rw [first_succ, ← HPS.out, HNXT.out.2.2.1]; unfold cellsP; rw [List.map_append]; rfl)
    have hfar : ∀ {y1 : Option Addr} {vs : List Value}, RowP w2 (fun i => (Z i ∨ N i) ∧ ¬ Blk_ K i ∧ ¬ Blk_ L i) y1 vs → RowP u4 (fun i => Plus (fun i => Z i ∨ N i) w2 u4 i ∧ ¬ Blk_ K5 i ∧ ¬ Blk_ L5 i) y1 vs := fun hy j v hv => by
     obtain ⟨ad, e1, e2, e3, e4⟩ := hy.turn two.turn (fun i z1 z2 => z2.elim z1.2.1 z1.2.2) j v hv
     obtain ⟨ad', e1', _, e3', _⟩ := hy j v hv
     rw [e1] at e1'; injection e1' with e1'; subst e1'
     exact ⟨ad, e1, ⟨Or.inl e2.1, fun z => (two.li _ z).elim e2.2.1 (fun z2 => by omega), fun z => (two.ls _ z).elim e2.2.2 (fun z2 => by omega)⟩, e3, e4⟩
    have HIN := Lib.hid (show ∀ y ∈ ps ++ [(A1, c1, q.cells)], RowP u4 (fun i => Plus (fun i => Z i ∨ N i) w2 u4 i ∧ ¬ Blk_ K5 i ∧ ¬ Blk_ L5 i) y.1 (strs y.2.2) from fun y hy => by
     rcases List.mem_append.1 hy with hy | hy
     ·exact hfar (IN2.out y hy)
     ·rw [List.mem_singleton.1 hy]; exact hfar RQ2.out)
    have HCR := Lib.hid (h5.up (show m + 1000 * (k : Int) + 1000 ≤ m + 1000 * ((k + 1 : Nat) : Int) by push_cast; omega))
    have HKL5 := Lib.hid (show ∀ i, Blk_ K5 i ∨ Blk_ L5 i → Plus (fun i => Z i ∨ N i) w2 u4 i from fun i hi => by
     rcases hi with hi | hi
     ·rcases two.li i hi with z | z
      ·exact Or.inl (Or.inl (HKL.out i (Or.inl z)))
      ·exact Or.inr ⟨z, (own_lo two.oi hi).2⟩
     ·rcases two.ls i hi with z | z
      ·exact Or.inl (Or.inl (HKL.out i (Or.inr z)))
      ·exact Or.inr ⟨z, (own_lo two.os hi).2⟩)
    have HT5 := Lib.hid (HT2.out.step (two.turn.mono fun i _ hi hx => by
     have h9 := HKL.out i hi
     have h8 := HXL.out i hx
     rcases hi with hi | hi
     ·exact HNX.out i (Or.inl hi) hx
     ·exact HNX.out i (Or.inr hi) hx))
    have HXZ5 := Lib.hid (show ∀ i, X i → Plus (fun i => Z i ∨ N i) w2 u4 i from fun i hi => Or.inl (Or.inl (HXZ.out i hi)))
    have HZX5 := Lib.hid (show ∀ i, Plus (fun i => Z i ∨ N i) w2 u4 i → X i ∨ W.heap.size ≤ i from fun i hi => by
     rcases hi with (hi | hi) | hi
     ·exact HZX.out i hi
     ·exact Or.inr (Nat.le_trans HWR.out (HN.out i hi))
     ·exact Or.inr (Nat.le_trans HLO.out hi.1))
    clear two h5 hfar aP hsz hlo
    go_wp2_with fail
    go_roundw
    case rel => exact ⟨k + 1, K5, c5, L5, d5, ps ++ [(A1, c1, q.cells)], _, by omega, by rw [HNXT.out.2.1, HNX2.out], rfl, rfl, by go_num, HOI.out, HOS.out, HPS5.out, HIN.out, HCR.out, HXZ5.out, HZX5.out, HKL5.out, HT5.out⟩
    case measure => simp [intOf]; omega
   refine AllReady.cons rfl (fun KK hK => ?_) AllReady.nil
   go_simp
   refine hK _ _ ?_
   clear hK KK
   obtain ⟨u2, hw⟩ : ∃ v, v = u1.alloc (.cells #[.slice A1 q.cells.length c1] 37) := ⟨_, rfl⟩
   rw [← hw]
   have hb : Below u1.heap.size u1 u2 := by rw [hw]; exact al_ _ _
   have two := two.below hb
   have aS : At u2 u1.heap.size 37 #[.slice A1 q.cells.length c1] := by rw [hw]; exact heap_alloc_new u1 _
   have aP := aP.same (hb.block _ aP.lt)
   have hlo : W.heap.size ≤ u2.heap.size := Nat.le_trans hlo hb.size
   have aI := aI.same (hb.block _ aI.lt)
   clear hb hw
   generalize u1.heap.size = bS at aS ⊢
   refine wpAny_ready (rs := [3]) (by decide +kernel) (by simp) ?_
   refine AllReady.cons rfl (fun KK hK => ?_) AllReady.nil
   obtain ⟨K5, c5, u3, hrun, two, hsz, hat⟩ := two.appI hlo (by simp [Value.oneCell']) aI (by rw [HTL.out]; omega)
   rw [HTL.out] at hrun
   have aP := hat _ _ _ (by decide) aP
   have hlo : W.heap.size ≤ u3.heap.size := Nat.le_trans hlo hsz
   have aS := hat _ _ _ (by decide) aS
   refine FreeCellsOf.step_append_d (d := 37) rfl rfl (.tmp 34) (.tmp 36) 32 32 rfl (vs := .slice K k ck) (vx := .slice (some ⟨bI, 0, none⟩) 1 1) (by simp [Act.eval]) (by simp [Act.eval]) hrun ?_
   refine hK _ _ ?_
   clear hK KK hrun hat hsz aI
   simp only [Act.put, List.setIfInBounds_toArray, List.set_cons_zero, List.set_cons_succ]
   refine wpAny_ready (rs := [8]) (by decide +kernel) (by simp) ?_
   refine AllReady.cons rfl (fun KK hK => ?_) AllReady.nil
   obtain ⟨L5, d5, u4, hrun, two, hsz, hat⟩ := two.appS hlo (by simp [Value.oneCell']) aS (by rw [HPL.out]; omega)
   rw [HPL.out] at hrun
   have aP := hat _ _ _ (by decide) aP
   refine FreeCellsOf.step_append_d (d := 42) rfl rfl (.tmp 38) (.tmp 41) 119 119 rfl (vs := .slice L k cl) (vx := .slice (some ⟨bS, 0, none⟩) 1 1) (by simp [Act.eval]) (by simp [Act.eval]) hrun ?_
   refine hK _ _ ?_
   clear hK KK hrun hat hsz aS
   simp only [Act.put, List.setIfInBounds_toArray, List.set_cons_zero, List.set_cons_succ]
   refine Reg.take_at (i := 9) (d := 7) (v := ?_) rfl rfl (by kernel_rfl) (by kernel_rfl) (by kernel_rfl) (fun _ _ _ h => h) (Or.inl ⟨by rfl, ?_⟩) ?_
   rotate_left 1
   ·intro w; go_simp <;> with_reducible rfl
   simp only [Act.put, List.setIfInBounds_toArray, List.set_cons_zero, List.set_cons_succ]
   refine Reg.take_at (i := 10) (d := 8) (v := ?_) rfl rfl (by kernel_rfl) (by kernel_rfl) (by kernel_rfl) (fun _ _ _ h => h) (Or.inl ⟨by rfl, ?_⟩) ?_
   rotate_left 1
   ·intro w; go_simp <;> with_reducible rfl
   simp only [Act.put, List.setIfInBounds_toArray, List.set_cons_zero, List.set_cons_succ]
   refine wpAny_done (by kernel_rfl) ?_ _
   have e3 : u4.cell? ⟨bx, 3, none⟩ = some (.int .i64 q.link) := by rw [aP.cell]; rfl
   have h5 := (H2.out.moreT two.turn fun i _ hx z => hx (Or.inl (HKL.out i z)))
   have hsz := two.turn.size
   have HOI := Lib.hid (show Own u4 W.heap.size 3 K5 c5 (intsV (ch.take (k + 1))) by rw [HTK.out]; exact two.oi)
   have HOS := Lib.hid (show Own u4 W.heap.size 37 L5 d5 ((ps ++ [(A1, c1, q.cells)]).map psv) by rw [List.map_append]; exact two.os)
   have HPS5 := Lib.hid (show cellsP (ps ++ [(A1, c1, q.cells)]) = first_ l (k + 1) by rw [first_succ, ← HPS.out, HNXT.out.2.2.1]; unfold cellsP; rw [List.map_append]; rfl)
   have hfar : ∀ {y1 : Option Addr} {vs : List Value}, RowP w2 (fun i => (Z i ∨ N i) ∧ ¬ Blk_ K i ∧ ¬ Blk_ L i) y1 vs → RowP u4 (fun i => Plus (fun i => Z i ∨ N i) w2 u4 i ∧ ¬ Blk_ K5 i ∧ ¬ Blk_ L5 i) y1 vs := fun hy j v hv => by
    obtain ⟨ad, e1, e2, e3, e4⟩ := hy.turn two.turn (fun i z1 z2 => z2.elim z1.2.1 z1.2.2) j v hv
    obtain ⟨ad', e1', _, e3', _⟩ := hy j v hv
    rw [e1] at e1'; injection e1' with e1'; subst e1'
    exact ⟨ad, e1, ⟨Or.inl e2.1, fun z => (two.li _ z).elim e2.2.1 (fun z2 => by omega), fun z => (two.ls _ z).elim e2.2.2 (fun z2 => by omega)⟩, e3, e4⟩
   have HIN := Lib.hid (show ∀ y ∈ ps ++ [(A1, c1, q.cells)], RowP u4 (fun i => Plus (fun i => Z i ∨ N i) w2 u4 i ∧ ¬ Blk_ K5 i ∧ ¬ Blk_ L5 i) y.1 (strs y.2.2) from fun y hy => by
    rcases List.mem_append.1 hy with hy | hy
    ·exact hfar (IN2.out y hy)
    ·rw [List.mem_singleton.1 hy]; exact hfar RQ2.out)
   have HCR := Lib.hid (h5.up (show m + 1000 * (k : Int) + 1000 ≤ m + 1000 * ((k + 1 : Nat) : Int) by push_cast; omega))
   have HKL5 := Lib.hid (show ∀ i, Blk_ K5 i ∨ Blk_ L5 i → Plus (fun i => Z i ∨ N i) w2 u4 i from fun i hi => by
    rcases hi with hi | hi
    ·rcases two.li i hi with z | z
     ·exact Or.inl (Or.inl (HKL.out i (Or.inl z)))
     ·exact Or.inr ⟨z, (own_lo two.oi hi).2⟩
    ·rcases two.ls i hi with z | z
     ·exact Or.inl (Or.inl (HKL.out i (Or.inr z)))
     ·exact Or.inr ⟨z, (own_lo two.os hi).2⟩)
   have HT5 := Lib.hid (HT2.out.step (two.turn.mono fun i _ hi hx => by
    have h9 := HKL.out i hi
    have h8 := HXL.out i hx
    rcases hi with hi | hi
    ·exact HNX.out i (Or.inl hi) hx
    ·exact HNX.out i (Or.inr hi) hx))
   have HXZ5 := Lib.hid (show ∀ i, X i → Plus (fun i => Z i ∨ N i) w2 u4 i from fun i hi => Or.inl (Or.inl (HXZ.out i hi)))
   have HZX5 := Lib.hid (show ∀ i, Plus (fun i => Z i ∨ N i) w2 u4 i → X i ∨ W.heap.size ≤ i from fun i hi => by
    rcases hi with (hi | hi) | hi
    ·exact HZX.out i hi
    ·exact Or.inr (Nat.le_trans HWR.out (HN.out i hi))
    ·exact Or.inr (Nat.le_trans HLO.out hi.1))
   clear two h5 hfar aP hsz hlo
   go_wp2_with fail
   go_roundw
   case rel => exact ⟨k + 1, K5, c5, L5, d5, ps ++ [(A1, c1, q.cells)], _, by omega, by rw [HNXT.out.2.1, HNX2.out], rfl, rfl, by go_num, HOI.out, HOS.out, HPS5.out, HIN.out, HCR.out, HXZ5.out, HZX5.out, HKL5.out, HT5.out⟩
   case measure => simp [intOf]; omega
  refine AllReady.cons rfl (fun KK hK => ?_) AllReady.nil
  go_simp
  refine hK _ _ ?_
  clear hK KK
  obtain ⟨u1, hw⟩ : ∃ v, v = u0.alloc (.cells #[.slice A1 q.cells.length c1] 37) := ⟨_, rfl⟩
  rw [← hw]
  have hb : Below u0.heap.size u0 u1 := by rw [hw]; exact al_ _ _
  have two := two.below hb
  have aS : At u1 u0.heap.size 37 #[.slice A1 q.cells.length c1] := by rw [hw]; exact heap_alloc_new u0 _
  have aP := aP.same (hb.block _ aP.lt)
  have hlo : W.heap.size ≤ u1.heap.size := Nat.le_trans hlo hb.size
  clear hb hw
  generalize u0.heap.size = bS at aS ⊢
  refine wpAny_ready (rs := [2]) (by decide +kernel) (by simp) ?_
  refine AllReady.cons rfl (fun KK hK => ?_) AllReady.nil
  go_simp
  refine hK _ _ ?_
  clear hK KK
  obtain ⟨u2, hw⟩ : ∃ v, v = u1.alloc (.cells #[.int .i64 no2] 3) := ⟨_, rfl⟩
  rw [← hw]
  have hb : Below u1.heap.size u1 u2 := by rw [hw]; exact al_ _ _
  have two := two.below hb
  have aI : At u2 u1.heap.size 3 #[.int .i64 no2] := by rw [hw]; exact heap_alloc_new u1 _
  have aP := aP.same (hb.block _ aP.lt)
  have hlo : W.heap.size ≤ u2.heap.size := Nat.le_trans hlo hb.size
  have aS := aS.same (hb.block _ aS.lt)
  clear hb hw
  generalize u1.heap.size = bI at aI ⊢
  refine wpAny_ready (rs := [3]) (by decide +kernel) (by simp) ?_
  refine AllReady.cons rfl (fun KK hK => ?_) AllReady.nil
  obtain ⟨K5, c5, u3, hrun, two, hsz, hat⟩ := two.appI hlo (by simp [Value.oneCell']) aI (by rw [HTL.out]; omega)
  rw [HTL.out] at hrun
  have aP := hat _ _ _ (by decide) aP
  have hlo : W.heap.size ≤ u3.heap.size := Nat.le_trans hlo hsz
  have aS := hat _ _ _ (by decide) aS
  refine FreeCellsOf.step_append_d (d := 37) rfl rfl (.tmp 34) (.tmp 36) 32 32 rfl (vs := .slice K k ck) (vx := .slice (some ⟨bI, 0, none⟩) 1 1) (by simp [Act.eval]) (by simp [Act.eval]) hrun ?_
  refine hK _ _ ?_
  clear hK KK hrun hat hsz aI
  simp only [Act.put, List.setIfInBounds_toArray, List.set_cons_zero, List.set_cons_succ]
  refine wpAny_ready (rs := [8]) (by decide +kernel) (by simp) ?_
  refine AllReady.cons rfl (fun KK hK => ?_) AllReady.nil
  obtain ⟨L5, d5, u4, hrun, two, hsz, hat⟩ := two.appS hlo (by simp [Value.oneCell']) aS (by rw [HPL.out]; omega)
  rw [HPL.out] at hrun
  have aP := hat _ _ _ (by decide) aP
  refine FreeCellsOf.step_append_d (d := 42) rfl rfl (.tmp 38) (.tmp 41) 119 119 rfl (vs := .slice L k cl) (vx := .slice (some ⟨bS, 0, none⟩) 1 1) (by simp [Act.eval]) (by simp [Act.eval]) hrun ?_
  refine hK _ _ ?_
  clear hK KK hrun hat hsz aS
  simp only [Act.put, List.setIfInBounds_toArray, List.set_cons_zero, List.set_cons_succ]
  refine Reg.take_at (i := 9) (d := 7) (v := ?_) rfl rfl (by kernel_rfl) (by kernel_rfl) (by kernel_rfl) (fun _ _ _ h => h) (Or.inl ⟨by rfl, ?_⟩) ?_
  rotate_left 1
  ·intro w; go_simp <;> with_reducible rfl
  simp only [Act.put, List.setIfInBounds_toArray, List.set_cons_zero, List.set_cons_succ]
  refine Reg.take_at (i := 10) (d := 8) (v := ?_) rfl rfl (by kernel_rfl) (by kernel_rfl) (by kernel_rfl) (fun _ _ _ h => h) (Or.inl ⟨by rfl, ?_⟩) ?_
  rotate_left 1
  ·intro w; go_simp <;> with_reducible rfl
  simp only [Act.put, List.setIfInBounds_toArray, List.set_cons_zero, List.set_cons_succ]
  refine wpAny_done (by kernel_rfl) ?_ _
  have e3 : u4.cell? ⟨bx, 3, none⟩ = some (.int .i64 q.link) := by rw [aP.cell]; rfl
  have h5 := (H2.out.moreT two.turn fun i _ hx z => hx (Or.inl (HKL.out i z)))
  have hsz := two.turn.size
  have HOI := Lib.hid (show Own u4 W.heap.size 3 K5 c5 (intsV (ch.take (k + 1))) by rw [HTK.out]; exact two.oi)
  have HOS := Lib.hid (show Own u4 W.heap.size 37 L5 d5 ((ps ++ [(A1, c1, q.cells)]).map psv) by rw [List.map_append]; exact two.os)
  have HPS5 := Lib.hid (show cellsP (ps ++ [(A1, c1, q.cells)]) = first_ l (k + 1) by rw [first_succ, ← HPS.out, HNXT.out.2.2.1]; unfold cellsP; rw [List.map_append]; rfl)
  have hfar : ∀ {y1 : Option Addr} {vs : List Value}, RowP w2 (fun i => (Z i ∨ N i) ∧ ¬ Blk_ K i ∧ ¬ Blk_ L i) y1 vs → RowP u4 (fun i => Plus (fun i => Z i ∨ N i) w2 u4 i ∧ ¬ Blk_ K5 i ∧ ¬ Blk_ L5 i) y1 vs := fun hy j v hv => by
   obtain ⟨ad, e1, e2, e3, e4⟩ := hy.turn two.turn (fun i z1 z2 => z2.elim z1.2.1 z1.2.2) j v hv
   obtain ⟨ad', e1', _, e3', _⟩ := hy j v hv
   rw [e1] at e1'; injection e1' with e1'; subst e1'
   exact ⟨ad, e1, ⟨Or.inl e2.1, fun z => (two.li _ z).elim e2.2.1 (fun z2 => by omega), fun z => (two.ls _ z).elim e2.2.2 (fun z2 => by omega)⟩, e3, e4⟩
  have HIN := Lib.hid (show ∀ y ∈ ps ++ [(A1, c1, q.cells)], RowP u4 (fun i => Plus (fun i => Z i ∨ N i) w2 u4 i ∧ ¬ Blk_ K5 i ∧ ¬ Blk_ L5 i) y.1 (strs y.2.2) from fun y hy => by
   rcases List.mem_append.1 hy with hy | hy
   ·exact hfar (IN2.out y hy)
   ·rw [List.mem_singleton.1 hy]; exact hfar RQ2.out)
  have HCR := Lib.hid (h5.up (show m + 1000 * (k : Int) + 1000 ≤ m + 1000 * ((k + 1 : Nat) : Int) by push_cast; omega))
  have HKL5 := Lib.hid (show ∀ i, Blk_ K5 i ∨ Blk_ L5 i → Plus (fun i => Z i ∨ N i) w2 u4 i from fun i hi => by
   rcases hi with hi | hi
   ·rcases two.li i hi with z | z
    ·exact Or.inl (Or.inl (HKL.out i (Or.inl z)))
    ·exact Or.inr ⟨z, (own_lo two.oi hi).2⟩
   ·rcases two.ls i hi with z | z
    ·exact Or.inl (Or.inl (HKL.out i (Or.inr z)))
    ·exact Or.inr ⟨z, (own_lo two.os hi).2⟩)
  have HT5 := Lib.hid (HT2.out.step (two.turn.mono fun i _ hi hx => by
   have h9 := HKL.out i hi
   have h8 := HXL.out i hx
   rcases hi with hi | hi
   ·exact HNX.out i (Or.inl hi) hx
   ·exact HNX.out i (Or.inr hi) hx))
  have HXZ5 := Lib.hid (show ∀ i, X i → Plus (fun i => Z i ∨ N i) w2 u4 i from fun i hi => Or.inl (Or.inl (HXZ.out i hi)))
  have HZX5 := Lib.hid (show ∀ i, Plus (fun i => Z i ∨ N i) w2 u4 i → X i ∨ W.heap.size ≤ i from fun i hi => by
   rcases hi with (hi | hi) | hi
   ·exact HZX.out i hi
   ·exact Or.inr (Nat.le_trans HWR.out (HN.out i hi))
   ·exact Or.inr (Nat.le_trans HLO.out hi.1))
  clear two h5 hfar aP hsz hlo
  go_wp2_with fail
  go_roundw
  case rel => exact ⟨k + 1, K5, c5, L5, d5, ps ++ [(A1, c1, q.cells)], _, by omega, by rw [HNXT.out.2.1, HNX2.out], rfl, rfl, by go_num, HOI.out, HOS.out, HPS5.out, HIN.out, HCR.out, HXZ5.out, HZX5.out, HKL5.out, HT5.out⟩
  case measure => simp [intOf]; omega
end
end Go.Proofs.YtpidnkfcccboaaaGreat.PagerCode
namespace Go.Proofs.YtpidnkfcccboaaaGreat.PagerCode
open Go.RowKit Base PagePlain PageSmall FreePlain FreeMem FreePages FreeOf SuperPlain SuperRefCheck PagerPlain PagerTold PagerNum PagerSpec PagerTellP SumOf DiskPlain DiskMem DiskSmall PagerMem PagerDisk Go.Maps

theorem cutS (L : Option Addr) (n cl j : Nat) (hj : j ≤ cl) (w : World) : (Instr.slice 119 (.slice L n cl) none (some (.int .i64 (j : Int))) none).run Tryz.prog w = .ok (.slice L j cl) w := by
 go_simp
/-- the last page that has a cell -/
def Last_ (ps : List Ps) (j : Nat) : Prop := j ≤ ps.length ∧ (∀ i (h : i < ps.length), j ≤ i → (ps[i]).2.2 = []) ∧ (j = 0 ∨ ∃ h : j - 1 < ps.length, (ps[j - 1]).2.2 ≠ [])
theorem last_one {ps : List Ps} {i j : Nat} (h : Last_ ps i) (k : Last_ ps j) : i = j := by
 obtain ⟨a1, a2, a3⟩ := h
 obtain ⟨b1, b2, b3⟩ := k
 rcases Nat.lt_trichotomy i j with q | q | q
 ·rcases b3 with b3 | ⟨h, b3⟩
  ·omega
  ·exact absurd (a2 (j - 1) h (by omega)) b3
 ·exact q
 ·rcases a3 with a3 | ⟨h, a3⟩
  ·omega
  ·exact absurd (b2 (i - 1) h (by omega)) a3
theorem last_in {ps : List Ps} {i j : Nat} (e : i + 1 = j) (hip : i < ps.length) (hz : ¬ (ps[i]).2.2.length = 0) : ∃ h : j - 1 < ps.length, (ps[j - 1]).2.2 ≠ [] := by
 subst e
 exact ⟨hip, fun q => hz (by rw [show (ps[i]).2.2 = [] from q]; rfl)⟩
set_option maxRecDepth 100000 in
set_option maxHeartbeats 6400000 in
theorem wee_any (W : World) (L : Option Addr) (n cl : Nat) (ps : List Ps) (hn : n = ps.length) (hc : ps.length ≤ cl) (hll : ps.length ≤ 1000000) (hr : Row W W.heap.size L (ps.map psv)) : Calls Tryz.prog 71 #[.slice L n cl] W fun e w' => ∃ j, Last_ ps j ∧ e = .returned (.slice L j cl) ∧ W = w' := by
 have HR := Lib.hid hr
 have HN := Lib.hid hn
 have hnl : n ≤ 1000000 := by omega
 have hncl : n ≤ cl := by omega
 clear hr hn hc hll
 go_enter Tryz.func71, Tryz.ntmps71
 go_wp2_with fail
 go_loopw [3] (fun v wr => ∃ j : Nat, j ≤ n ∧ v = .int .i64 j ∧ Hid (∀ i (h : i < ps.length), j ≤ i → (ps[i]).2.2 = []) ∧ Hid (W = wr)) (fun v _ => (intOf v).toNat)
 case atStart => exact ⟨n, Nat.le_refl _, rfl, show Hid (∀ i (h : i < ps.length), n ≤ i → (ps[i]).2.2 = []) from fun i h q => by have := HN.out; omega, show Hid (W = W) from rfl⟩
 case round =>
  obtain ⟨j, hj, rfl, HE, HW⟩ := hrel
  by_cases h0 : j = 0
  ·subst h0
   have HL := Lib.hid (show Last_ ps 0 from ⟨Nat.zero_le _, HE.out, Or.inl rfl⟩)
   have hcut := cutS L n cl 0 (Nat.zero_le _)
   go_wp2_with fail
   go_ret
   exact ⟨0, HL.out, rfl, HW.out⟩
  ·have hpos : (0 : Int) < (j : Int) := by omega
   obtain ⟨i, hi⟩ : ∃ i : Nat, (j : Int) - 1 = (i : Int) ∧ i + 1 = j := ⟨j - 1, by omega, by omega⟩
   have hip : i < ps.length := by have := HN.out; omega
   have hin : i < n := by omega
   obtain ⟨ad, hL, _, hcl2⟩ := HR.out.get i (by simpa using hip)
   rw [List.getElem_map] at hcl2
   subst hL
   have hcell : wr.cell? (ad.add i) = some (.slice (ps[i]).1 (ps[i]).2.2.length (ps[i]).2.1) := by rw [← HW.out]; exact hcl2
   have hi1 := hi.1
   by_cases hz : (ps[i]).2.2.length = 0
   ·have HE2 := Lib.hid (show ∀ k (h : k < ps.length), i ≤ k → (ps[k]).2.2 = [] from fun k h q => by
     rcases Nat.eq_or_lt_of_le q with q | q
     ·subst q; exact List.eq_nil_of_length_eq_zero hz
     ·exact HE.out k h (by omega))
    rw [hz] at hcell
    have HI := Lib.hid hi
    clear hz hcl2 hi HE
    generalize (ps[i]).1 = A1 at *
    generalize (ps[i]).2.1 = c1 at *
    go_wp2_with fail
    go_roundw
    case rel => exact ⟨i, by omega, rfl, HE2.out, HW.out⟩
    case measure => have := HI.out.2; simp [intOf]; omega
   ·have HL := Lib.hid (show Last_ ps j from ⟨by have := HN.out; omega, HE.out, Or.inr (last_in hi.2 hip hz)⟩)
    have hcut := cutS (some ad) n cl j (by omega)
    have hzb : (((ps[i]).2.2.length : Int) == 0) = false := by simpa using (show ¬ ((ps[i]).2.2.length : Int) = 0 by omega)
    clear hcl2 hi HE hz
    generalize (ps[i]).1 = A1 at *
    generalize (ps[i]).2.1 = c1 at *
    generalize (ps[i]).2.2.length = n1 at *
    go_wp2_with fail
    go_ret
    exact ⟨j, HL.out, rfl, HW.out⟩
/-- the test of a list's pages, made of the pager's box -/
def clp (B : Nat) : Value := .func (.func 73) #[] #[.pointer (some ⟨B, 0, none⟩)]
set_option maxRecDepth 100000 in
set_option maxHeartbeats 3200000 in
theorem testR_any (W : World) (B p : Nat) (p1 p2 pg : Int) (hBl : B < W.heap.size) (hpl : p < W.heap.size) (hB : W.cell? ⟨B, 0, none⟩ = some (.pointer (some ⟨p, 0, none⟩))) (hp : W.cell? ⟨p, 2, none⟩ = some (.int .i64 pg)) (h : 2 ≤ p1 ∧ p1 < pg) : Calls Tryz.prog 73 #[.agg #[.int .i64 p1, .int .i64 p2], .pointer (some ⟨B, 0, none⟩)] W fun e w' => e = .returned (.bool false) ∧ Below W.heap.size W w' := by
 have b1 := al_ W (.cells #[.int .i64 p1, .int .i64 p2] 66)
 have cB := (b1.cell (p := ⟨B, 0, none⟩) hBl).trans hB
 have cp := (b1.cell (p := ⟨p, 2, none⟩) hpl).trans hp
 have ap := heap_alloc_new W (.cells #[.int .i64 p1, .int .i64 p2] 66)
 have c1 : (W.alloc (.cells #[.int .i64 p1, .int .i64 p2] 66)).cell? ⟨W.heap.size, 0, none⟩ = some (.int .i64 p1) := by simp
 obtain ⟨w1, hw1⟩ : ∃ v, v = World.drew (W.alloc (.cells #[.int .i64 p1, .int .i64 p2] 66)) := ⟨_, rfl⟩
 have cB1 : w1.cell? ⟨B, 0, none⟩ = some (.pointer (some ⟨p, 0, none⟩)) := by rw [hw1]; exact cB
 have cp1 : w1.cell? ⟨p, 2, none⟩ = some (.int .i64 pg) := by rw [hw1]; exact cp
 have c11 : w1.cell? ⟨W.heap.size, 0, none⟩ = some (.int .i64 p1) := by rw [hw1]; exact c1
 have hhas := has_any w1 p p1 pg cp1
 rw [decide_eq_true h] at hhas
 have HB := Lib.hid (show Below W.heap.size W w1 by rw [hw1]; exact b1.drew)
 have HW := Lib.hid hw1
 clear hw1 cB cp c1 ap b1 hB hp cp1
 go_enter Tryz.func73, Tryz.ntmps73
 go_upto_region 1 with fail
 refine wp_region_any (by kernel_rfl) ?_
 change wpAny _ _ _ _ _ _ _ (World.drew _)
 rw [← HW.out]
 refine Reg.take_at (i := 3) (d := 7) (v := ?_) rfl rfl (by kernel_rfl) (by kernel_rfl) (by kernel_rfl) (fun _ _ _ h => h) (Or.inl ⟨by rfl, ?_⟩) ?_
 rotate_left 1
 ·intro w; go_simp <;> with_reducible rfl
 simp only [Act.put, List.setIfInBounds_toArray, List.set_cons_zero, List.set_cons_succ]
 refine wpAny_ready (rs := [0, 4]) (by decide +kernel) (by simp) ?_
 refine AllReady.cons rfl (fun KK hK => ?_) ?_
 ·go_simp
  refine hK _ _ ?_
  clear hK KK
  refine Reg.take_at (i := 1) (d := 5) (v := ?_) rfl rfl (by kernel_rfl) (by kernel_rfl) (by kernel_rfl) (fun _ _ _ h => h) (Or.inl ⟨by rfl, ?_⟩) ?_
  rotate_left 1
  ·intro w; go_simp <;> with_reducible rfl
  simp only [Act.put, List.setIfInBounds_toArray, List.set_cons_zero, List.set_cons_succ]
  refine Reg.take_at (i := 2) (d := 6) (v := ?_) rfl rfl (by kernel_rfl) (by kernel_rfl) (by kernel_rfl) (fun _ _ _ h => h) (Or.inl ⟨by rfl, ?_⟩) ?_
  rotate_left 1
  ·intro w; go_simp <;> with_reducible rfl
  simp only [Act.put, List.setIfInBounds_toArray, List.set_cons_zero, List.set_cons_succ]
  refine wpAny_ready (rs := [4]) (by decide +kernel) (by simp) ?_
  refine AllReady.cons rfl (fun KK hK => ?_) AllReady.nil
  go_simp
  refine hK _ _ ?_
  clear hK KK
  refine wpAny_ready (rs := [5]) (by decide +kernel) (by simp) ?_
  refine AllReady.cons rfl (fun KK hK => ?_) AllReady.nil
  go_simp
  (with_reducible refine hhas.mono ?_)
  rintro e u9 ⟨rfl, rfl⟩
  go_simp
  refine hK _ _ ?_
  clear hK KK
  refine Reg.take_at (i := 6) (d := 10) (v := ?_) rfl rfl (by kernel_rfl) (by kernel_rfl) (by kernel_rfl) (fun _ _ _ h => h) (Or.inl ⟨by rfl, ?_⟩) ?_
  rotate_left 1
  ·intro w; go_simp <;> with_reducible rfl
  simp only [Act.put, List.setIfInBounds_toArray, List.set_cons_zero, List.set_cons_succ]
  refine Reg.take_at (i := 7) (d := 3) (v := ?_) rfl rfl (by kernel_rfl) (by kernel_rfl) (by kernel_rfl) (fun _ _ _ h => h) (Or.inl ⟨by rfl, ?_⟩) ?_
  rotate_left 1
  ·intro w; go_simp <;> with_reducible rfl
  simp only [Act.put, List.setIfInBounds_toArray, List.set_cons_zero, List.set_cons_succ]
  refine wpAny_done (by kernel_rfl) ?_ _
  go_wp2_with fail
  go_ret
  exact ⟨rfl, HB.out⟩
 refine AllReady.cons rfl (fun KK hK => ?_) AllReady.nil
 go_simp
 refine hK _ _ ?_
 clear hK KK
 refine wpAny_ready (rs := [0]) (by decide +kernel) (by simp) ?_
 refine AllReady.cons rfl (fun KK hK => ?_) AllReady.nil
 go_simp
 refine hK _ _ ?_
 clear hK KK
 refine Reg.take_at (i := 1) (d := 5) (v := ?_) rfl rfl (by kernel_rfl) (by kernel_rfl) (by kernel_rfl) (fun _ _ _ h => h) (Or.inl ⟨by rfl, ?_⟩) ?_
 rotate_left 1
 ·intro w; go_simp <;> with_reducible rfl
 simp only [Act.put, List.setIfInBounds_toArray, List.set_cons_zero, List.set_cons_succ]
 refine Reg.take_at (i := 2) (d := 6) (v := ?_) rfl rfl (by kernel_rfl) (by kernel_rfl) (by kernel_rfl) (fun _ _ _ h => h) (Or.inl ⟨by rfl, ?_⟩) ?_
 rotate_left 1
 ·intro w; go_simp <;> with_reducible rfl
 simp only [Act.put, List.setIfInBounds_toArray, List.set_cons_zero, List.set_cons_succ]
 refine wpAny_ready (rs := [5]) (by decide +kernel) (by simp) ?_
 refine AllReady.cons rfl (fun KK hK => ?_) AllReady.nil
 go_simp
 (with_reducible refine hhas.mono ?_)
 rintro e u9 ⟨rfl, rfl⟩
 go_simp
 refine hK _ _ ?_
 clear hK KK
 refine Reg.take_at (i := 6) (d := 10) (v := ?_) rfl rfl (by kernel_rfl) (by kernel_rfl) (by kernel_rfl) (fun _ _ _ h => h) (Or.inl ⟨by rfl, ?_⟩) ?_
 rotate_left 1
 ·intro w; go_simp <;> with_reducible rfl
 simp only [Act.put, List.setIfInBounds_toArray, List.set_cons_zero, List.set_cons_succ]
 refine Reg.take_at (i := 7) (d := 3) (v := ?_) rfl rfl (by kernel_rfl) (by kernel_rfl) (by kernel_rfl) (fun _ _ _ h => h) (Or.inl ⟨by rfl, ?_⟩) ?_
 rotate_left 1
 ·intro w; go_simp <;> with_reducible rfl
 simp only [Act.put, List.setIfInBounds_toArray, List.set_cons_zero, List.set_cons_succ]
 refine wpAny_done (by kernel_rfl) ?_ _
 go_wp2_with fail
 go_ret
 exact ⟨rfl, HB.out⟩
set_option maxRecDepth 100000 in
set_option maxHeartbeats 1600000 in
theorem indexR_any (W : World) (A : Option Addr) (n c : Nat) (l : Fs) (B p : Nat) (pg : Int) (hn : n = l.length) (hr : Row W W.heap.size A (fr l)) (hl : l.length ≤ 100000) (hB : W.cell? ⟨B, 0, none⟩ = some (.pointer (some ⟨p, 0, none⟩))) (hp : W.cell? ⟨p, 2, none⟩ = some (.int .i64 pg)) (hBl : B < W.heap.size) (hpl : p < W.heap.size) (hall : ∀ q ∈ l, 2 ≤ q.1 ∧ q.1 < pg) :
  Calls Tryz.prog 102 #[.slice A n c, clp B] W fun e w' => e = .returned (.int .i64 (-1)) ∧ Below W.heap.size W w' := by
 subst hn
 have HR := Lib.hid hr
 have HB := Lib.hid hB
 have HP := Lib.hid hp
 have HA := Lib.hid hall
 clear hr hB hp hall
 unfold clp
 go_enter Tryz.func102, Tryz.ntmps102
 go_wp2_with fail
 go_loopw [5, 8] (fun _ i wr => ∃ k : Nat, k ≤ l.length ∧ i = .int .i64 k ∧ Below W.heap.size W wr) (fun _ i _ => l.length - (intOf i).toNat)
 case atStart => exact ⟨0, by omega, rfl, Below.refl _ _⟩
 case round =>
  obtain ⟨k, hk, rfl, hbw⟩ := hrel
  by_cases hlt : k < l.length
  ·obtain ⟨ad, hA, hblk, hc1, hc2⟩ := row_at HR.out k hlt
   subst hA
   have cc1 := (hbw.cell (p := ad.add (k * 2)) (by rw [blk_add]; exact hblk)).trans hc1
   have cc2 := (hbw.cell (p := ⟨(ad.add (k * 2)).block, (ad.add (k * 2)).off + 1, none⟩) (by show (ad.add (k * 2)).block < _; rw [blk_add]; exact hblk)).trans hc2
   have cb := (hbw.cell (p := ⟨B, 0, none⟩) hBl).trans HB.out
   have cp := (hbw.cell (p := ⟨p, 2, none⟩) hpl).trans HP.out
   have hcall := testR_any wr B p (l[k]).1 (l[k]).2 pg (Nat.lt_of_lt_of_le hBl hbw.size) (Nat.lt_of_lt_of_le hpl hbw.size) cb cp (HA.out _ (List.getElem_mem hlt))
   clear hc1 hc2 cb cp
   generalize (l[k]).1 = p1 at *
   generalize (l[k]).2 = p2 at *
   go_wp2_with (go_at_call 73; refine hcall.mono ?_; rintro e w' ⟨rfl, hb'⟩)
   have hb2 := hbw.trans (hb'.mono hbw.size)
   clear hcall
   go_roundw
   case rel => exact ⟨k + 1, by omega, by go_num, hb2⟩
   case measure => simp [intOf]; omega
  ·obtain rfl : k = l.length := by omega
   go_wp2_with fail
   go_ret
   exact ⟨rfl, hbw⟩
set_option maxRecDepth 100000 in
theorem contains_any (W : World) (A : Option Addr) (n c : Nat) (l : Fs) (B p : Nat) (pg : Int) (hn : n = l.length) (hr : Row W W.heap.size A (fr l)) (hl : l.length ≤ 100000) (hB : W.cell? ⟨B, 0, none⟩ = some (.pointer (some ⟨p, 0, none⟩))) (hp : W.cell? ⟨p, 2, none⟩ = some (.int .i64 pg)) (hBl : B < W.heap.size) (hpl : p < W.heap.size) (hall : ∀ q ∈ l, 2 ≤ q.1 ∧ q.1 < pg) :
  Calls Tryz.prog 72 #[.slice A n c, clp B] W fun e w' => e = .returned (.bool false) ∧ Below W.heap.size W w' := by
 subst hn
 have hcall := indexR_any W A l.length c l B p pg rfl hr hl hB hp hBl hpl hall
 unfold clp at *
 clear hr hall
 go_enter Tryz.func72, Tryz.ntmps72
 go_wp2_with fail
 (with_reducible refine hcall.mono ?_)
 clear hcall
 rintro e w1 ⟨rfl, b1⟩
 go_wp2_with fail
 go_ret
 exact ⟨rfl, b1⟩
end Go.Proofs.YtpidnkfcccboaaaGreat.PagerCode
