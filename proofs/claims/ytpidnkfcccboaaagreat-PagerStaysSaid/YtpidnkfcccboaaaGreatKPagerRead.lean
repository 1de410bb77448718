/- The contract of the pager's Read. -/
import Derived.Test.YtpidnkfcccboaaaGreatKPageGet
import Derived.Test.YtpidnkfcccboaaaGreatKPagerCode1
import Derived.Test.YtpidnkfcccboaaaGreatKPagerDisk
import Derived.Deep.Cut
namespace Go.Proofs.YtpidnkfcccboaaaGreat.PagerCode
open Go.RowKit Base PageSmall FreePlain FreeMem SuperPlain SuperRefCheck PagerPlain PagerTold PagerNum PagerSpec SumOf DiskPlain DiskMem DiskSmall PagerMem PagerDisk Go.Maps
open PageGet (gotE)
open SumFill (Ready)
open PageTold2 (results_cell_tmp_row)

section
variable {W w w' : World} {p d g mp bx : Nat} {S S' : DS} {P P' : PS} {X Y G : Blks} {m m' : Int} {nn nn' : Nat} {FD : Blks} {A B C : Option Addr} {a b c : Nat}
/-- what was made since w is the caller's -/
theorem _root_.Go.Proofs.YtpidnkfcccboaaaGreat.PagerMem.Cr.plus (h : Cr w p d g mp S P X m nn FD A B C a b c) (h' : Cr w' p d g mp S' P X m' nn' FD A B C a b c) (hs : w.heap.size ≤ w'.heap.size) : Cr w' p d g mp S' P (Plus X w w') m' nn' FD A B C a b c := by
 obtain ⟨n, n0, n1, hr⟩ := h.su
 have hp := h.st.lt
 have hg := Ready.lt hr
 have hm := h.ms.lt
 have row : ∀ {A : Option Addr} {vs : List Value}, RowP w (Out p g mp FD X) A vs → ∀ i, w.heap.size ≤ i → Off A vs i := fun q i hi k v hv ad e => by
  obtain ⟨ad', e1, e2, e3, e4⟩ := q k v hv
  rw [e] at e1
  injection e1 with e1
  subst e1
  omega
 refine h'.grow fun i hi => ?_
 rcases hi with hi | ⟨hi, hl⟩
 ·exact ⟨Nat.lt_of_lt_of_le (h.xl i hi) hs, Or.inl hi⟩
 ·exact ⟨hl, Or.inr ⟨fun z => by have := (h.nf i z).1; omega, by omega, by omega, by omega, row h.ra i hi, row h.rb i hi, row h.rc i hi⟩⟩
theorem t5 (w : World) (x0 x1 x2 x3 x4 : Value) : Turn (fun i => i = bx) w (((((w.setCell ⟨bx, 0, none⟩ (x0)).setCell ⟨bx, 1, none⟩ (x1)).setCell ⟨bx, 2, none⟩ (x2)).setCell ⟨bx, 3, none⟩ (x3)).setCell ⟨bx, 4, none⟩ (x4)) :=
 (((((Turn.refl (fun i => i = bx) w).set ⟨bx, 0, none⟩ (Or.inr rfl) x0).set ⟨bx, 1, none⟩ (Or.inr rfl) x1).set ⟨bx, 2, none⟩ (Or.inr rfl) x2).set ⟨bx, 3, none⟩ (Or.inr rfl) x3).set ⟨bx, 4, none⟩ (Or.inr rfl) x4
theorem cr5 (h : Cr w p d g mp S P X m nn FD A B C a b c) (hX : X bx) (x0 x1 x2 x3 x4 : Value) : Cr (((((w.setCell ⟨bx, 0, none⟩ (x0)).setCell ⟨bx, 1, none⟩ (x1)).setCell ⟨bx, 2, none⟩ (x2)).setCell ⟨bx, 3, none⟩ (x3)).setCell ⟨bx, 4, none⟩ (x4)) p d g mp S P X m nn FD A B C a b c :=
 h.turn (t5 w x0 x1 x2 x3 x4) fun i _ hn e => hn (by rw [show i = bx from e]; exact hX)
theorem turn5 (h : Turn (Not X) W w) (hb : W.heap.size ≤ bx) (x0 x1 x2 x3 x4 : Value) : Turn (Not X) W (((((w.setCell ⟨bx, 0, none⟩ (x0)).setCell ⟨bx, 1, none⟩ (x1)).setCell ⟨bx, 2, none⟩ (x2)).setCell ⟨bx, 3, none⟩ (x3)).setCell ⟨bx, 4, none⟩ (x4)) :=
 (((((h.set ⟨bx, 0, none⟩ (Or.inl hb) x0).set ⟨bx, 1, none⟩ (Or.inl hb) x1).set ⟨bx, 2, none⟩ (Or.inl hb) x2).set ⟨bx, 3, none⟩ (Or.inl hb) x3).set ⟨bx, 4, none⟩ (Or.inl hb) x4)
theorem got_ne {l : List UInt8} {k : Int} (h : gotE l = .inl k) : k ≠ 0 := by
 unfold PageGet.gotE at h
 split at h
 ·split at h
  ·split at h
   ·injection h with h; omega
   ·cases h
  ·injection h with h; omega
 ·injection h with h; omega
theorem rd_256 {S : DS} {P : PS} (ha : Agree S P) (hS : S.Ok) {k : Nat} (hk : k < S.last.length) : (P.rd k).length = 256 := by rw [← ha.rd k hk]; exact rd_len hS k hk
theorem own_rowP' {w : World} {base c : Nat} {e : TypeId} {A : Option Addr} {vs : List Value} (h : Own w base e A c vs) : RowP w (fun i => base ≤ i) A vs := fun k v hv => by
 obtain ⟨ad, e1, e2, e3⟩ := h.row k v hv
 subst e1
 exact ⟨ad, rfl, (h.block ad.block rfl).1, e2, e3⟩
/-- what Read comes to -/
def ReadPost (W : World) (p d g mp : Nat) (S : DS) (P : PS) (X : Blks) (m : Int) (nn : Nat) (FD : Blks) (A B C : Option Addr) (a b c : Nat) (no : Int) (e : Ending) (w' : World) : Prop := ∃ N : Blks, Cr w' p d g mp S P (fun i => X i ∨ N i) (m + 1000) nn FD A B C a b c ∧ (∀ b, N b → W.heap.size ≤ b) ∧ Turn (Not X) W w' ∧
  match rdP P no with
  | .inl k => e = .returned (.tuple #[nopV, .int .i64 k])
  | .inr q => ∃ A c, e = .returned (.tuple #[pv q A c, .int .i64 0]) ∧ RowP w' N A (strs q.cells)
set_option maxRecDepth 100000 in
set_option maxHeartbeats 12800000 in
theorem read_any (h : Cr W p d g mp S P X m nn FD A B C a b c) (ha : Agree S P) (hm : m ≤ 800000000) (no : Int) : Calls Tryz.prog 25 #[.pointer (some ⟨p, 0, none⟩), .int .i64 no] W (ReadPost W p d g mp S P X m nn FD A B C a b c no) := by
 have hS := h.dk.ok
 obtain ⟨w1, hw1⟩ : ∃ v, v = W.alloc PageGet.ZP := ⟨_, rfl⟩
 have b1 : Below W.heap.size W w1 := by rw [hw1]; exact (Below.refl _ _).alloc (Nat.le_refl _) _
 have hz1 : At w1 W.heap.size 69 #[.int .i64 0, .int .i64 0, .int .i64 0, .int .i64 0, .slice none 0 0] := by rw [hw1]; exact heap_alloc_new W _
 have h1 := h.more b1
 have hxb : (Plus X W w1) W.heap.size := Or.inr ⟨Nat.le_refl _, hz1.lt⟩
 have t1 : Turn (Not X) W w1 := Turn.ofBelow b1
 have HW := Lib.hid hw1
 have HXW := Lib.hid h.xl
 clear hw1
 generalize hbx : W.heap.size = bx at hz1 hxb
 have HBX := Lib.hid (show W.heap.size ≤ bx by omega)
 have HYB := Lib.hid hxb
 have HYL := Lib.hid (show ∀ i, (Plus X W w1) i → X i ∨ W.heap.size ≤ i from fun i hi => hi.elim Or.inl fun z => Or.inr z.1)
 have HYX := Lib.hid (show ∀ i, X i → (Plus X W w1) i from fun i hi => Or.inl hi)
 generalize Plus X W w1 = Y1 at h1 HYB HYL HYX
 clear hxb b1
 have c2 := (pgc h1.st).1.2.2
 have hhas := has_any w1 p no P.pg c2
 clear c2
 by_cases hh : 2 ≤ no ∧ no < P.pg
 ·obtain ⟨k, rfl⟩ := Int.eq_ofNat_of_zero_le (show 0 ≤ no by omega)
  have hk : k < S.last.length := by have := ha.pg; omega
  have hrl := rd_256 ha hS hk
  have hre := ha.rd k hk
  have HRD := Lib.hid (show rdP P k = match gotE (P.rd k) with | .inl e => .inl e | .inr q => if q.no = k then .inr q else .inl 41 by unfold rdP; rw [if_neg (by omega)]; rfl)
  rw [decide_eq_true hh] at hhas
  have hlo := h1.lo
  have hread := read_dk h1.dk k hk (by omega)
  rw [hre] at hread
  generalize P.rd k = pb at hread hrl HRD
  obtain ⟨w2, hw2⟩ : ∃ v, v = w1.alloc (.cells (DiskSync.pcell pb) 5) := ⟨_, rfl⟩
  rw [← hw2] at hread
  have b2 : Below w1.heap.size w1 w2 := by rw [hw2]; exact (Below.refl _ _).alloc (Nat.le_refl _) _
  have a2 : At w2 w1.heap.size 5 (DiskSync.pcell pb) := by rw [hw2]; exact heap_alloc_new w1 _
  have h2 := h1.below b2
  have hz2 : At w2 bx _ _ := hz1.same (b2.block _ hz1.lt)
  have t2 := t1.step (Turn.ofBelow (F := Not X) b2)
  obtain ⟨n, n0, n1, hr2⟩ := h2.su
  have hgl : g < w1.heap.size := by obtain ⟨_, _, _, q⟩ := h1.su; exact Ready.lt q
  have hrow2 : RowX w2 g (some ⟨w1.heap.size, 0, none⟩) (bv pb) := fun k v hv => ⟨_, rfl, a2.lt, by show w1.heap.size ≠ g; omega, by rw [add_zero_block, a2.cell]; simpa [DiskSync.pcell] using hv⟩
  have hget := PageGet.get_256 g n w2 ⟨w1.heap.size, 0, none⟩ 256 256 pb hr2 n0 (by omega) hrow2 (by rw [hrl]) hrl (by omega)
  unfold PageGet.GetPost at hget
  have e0 := (pgc h1.st).1.1
  have e1 := (pgc h2.st).1.2.1
  have HC2 := Lib.hid (show ∀ (w' : World) (n' : Int), n ≤ n' → n' ≤ n + 252 → Ready w' g n' → SumMem.Only g w2 w' → Cr w' p d g mp S P Y1 (m + 1000) nn FD A B C a b c ∧ Turn (Not Y1) w2 w' from fun w' n' q1 q2 q3 q4 => h2.sums q4 q3 (by omega) (by omega) (by omega))
  have HH2 := Lib.hid h2
  have HNB := Lib.hid (show g ≠ bx from fun z => h1.xg (z ▸ HYB.out))
  have HB1 := Lib.hid (show bx < w2.heap.size from Nat.lt_of_lt_of_le hz1.lt b2.size)
  clear h h1 h2 hh ha hm hS hw2 b2 a2 hk hre hrl hr2 hrow2 n0 n1 hz1 t1 hlo hgl
  go_enter Tryz.func25, Tryz.ntmps25
  go_upto_region 1 with fail
  try rw [← HW.out]
  try rw [hbx]
  clear hbx HW
  go_wp2_with fail
  (with_reducible refine hhas.mono ?_)
  clear hhas
  rintro e w9 ⟨rfl, rfl⟩
  go_wp2_with fail
  (with_reducible refine hread.mono ?_)
  clear hread e0
  rintro e w9 ⟨rfl, rfl⟩
  go_wp2_with fail
  (with_reducible refine hget.mono ?_)
  clear hget e1
  rintro e w3 ⟨⟨n', q1, q2, q3⟩, ho, hres⟩
  obtain ⟨h3, t3⟩ := HC2.out w3 n' q1 q2 q3 ho
  have hz3 : At w3 bx _ _ := hz2.same (ho.block bx HB1.out fun z => HNB.out (Option.some.inj z).symm)
  have t3' := t2.step (t3.mono fun i _ hi hx => hi (HYX.out i hx))
  have HSZ := Lib.hid ho.size
  clear q1 q2 q3 ho t3 t2 hz2 HC2
  cases hgo : gotE pb with
  | inl er =>
   rw [hgo] at HRD hres
   simp only at hres
   subst hres
   have hne : (er != 0) = true := by simpa using got_ne hgo
   have HRE := Lib.hid (show rdP P k = .inl er from HRD.out)
   clear hgo HRD
   obtain ⟨w4, hw4⟩ : ∃ v, v = w3.alloc (.cells #[.int .i64 0, .int .i64 0, .int .i64 0, .int .i64 0, .slice none 0 0] 69) := ⟨_, rfl⟩
   have b4 : Below w3.heap.size w3 w4 := by rw [hw4]; exact (Below.refl _ _).alloc (Nat.le_refl _) _
   have a4 : At w4 w3.heap.size 69 #[.int .i64 0, .int .i64 0, .int .i64 0, .int .i64 0, .slice none 0 0] := by rw [hw4]; exact heap_alloc_new w3 _
   have hz4 : At w4 bx _ _ := hz3.same (b4.block _ hz3.lt)
   have HW4 := Lib.hid hw4
   have h4 := h3.below b4
   have t4 := t3'.step (Turn.ofBelow b4)
   have HLX := HYX
   clear h3 t3' hz3 b4 a4 hw4
   go_upto_region 7 with fail
   try rw [← HW4.out]
   clear HW4
   have k0 : w4.cell? ⟨bx, 0, none⟩ = some (.int .i64 0) := by rw [At.cell hz4]; rfl
   have z0 := At.frozen hz4 0
   have k1 : w4.cell? ⟨bx, 1, none⟩ = some (.int .i64 0) := by rw [At.cell hz4]; rfl
   have z1 := At.frozen hz4 1
   have k2 : w4.cell? ⟨bx, 2, none⟩ = some (.int .i64 0) := by rw [At.cell hz4]; rfl
   have z2 := At.frozen hz4 2
   have k3 : w4.cell? ⟨bx, 3, none⟩ = some (.int .i64 0) := by rw [At.cell hz4]; rfl
   have z3 := At.frozen hz4 3
   have k4 : w4.cell? ⟨bx, 4, none⟩ = some (.slice none 0 0) := by rw [At.cell hz4]; rfl
   have z4 := At.frozen hz4 4
   have HZ := Lib.hid (PageTold2.set5 hz4 rfl (.int .i64 0) (.int .i64 0) (.int .i64 0) (.int .i64 0) (.slice none 0 0))
   have HC := Lib.hid (cr5 (bx := bx) h4 HYB.out (.int .i64 0) (.int .i64 0) (.int .i64 0) (.int .i64 0) (.slice none 0 0))
   have HT := Lib.hid (turn5 (bx := bx) t4 HBX.out (.int .i64 0) (.int .i64 0) (.int .i64 0) (.int .i64 0) (.slice none 0 0))
   clear hz4 h4 t4
   go_wp2_with fail
   refine bodyPost_ret (results_cell_tmp_row rfl _ _ bx 69 _ (0, 0) _ rfl HZ.out Tryz.underlying69 rfl (by kernel_rfl)) rfl ?_
   unfold ReadPost
   refine ⟨fun i => Y1 i ∧ W.heap.size ≤ i, (HC.out.up (by omega)).less fun i hi => hi.elim (HLX.out i) (fun z => z.1), fun b hb => hb.2, HT.out, ?_⟩
   rw [HRE.out]
   rfl
  | inr q =>
   rw [hgo] at HRD hres
   simp only at hres
   obtain ⟨A', c', rfl, hown⟩ := hres
   clear hgo
   obtain ⟨w4, hw4⟩ : ∃ v, v = w3.alloc (.cells #[.int .i64 q.kind, .int .i64 q.no, .int .i64 q.epoch, .int .i64 q.link, .slice A' q.cells.length c'] 69) := ⟨_, rfl⟩
   have b4 : Below w3.heap.size w3 w4 := by rw [hw4]; exact (Below.refl _ _).alloc (Nat.le_refl _) _
   have a4 : At w4 w3.heap.size 69 #[.int .i64 q.kind, .int .i64 q.no, .int .i64 q.epoch, .int .i64 q.link, .slice A' q.cells.length c'] := by rw [hw4]; exact heap_alloc_new w3 _
   have hz4 : At w4 bx _ _ := hz3.same (b4.block _ hz3.lt)
   have HW4 := Lib.hid hw4
   by_cases hqn : q.no = (k : Int)
   ·have HRO := Lib.hid (own_rowP' hown)
    have h4 := (HH2.out.plus h3 HSZ.out).below b4
    have t4 := t3'.step (Turn.ofBelow b4)
    have e1 : w4.cell? ⟨w3.heap.size, 1, none⟩ = some (.int .i64 q.no) := by rw [a4.cell]; rfl
    have e0 : w4.cell? ⟨w3.heap.size, 0, none⟩ = some (.int .i64 q.kind) := by rw [a4.cell]; rfl
    have e2 : w4.cell? ⟨w3.heap.size, 2, none⟩ = some (.int .i64 q.epoch) := by rw [a4.cell]; rfl
    have e3 : w4.cell? ⟨w3.heap.size, 3, none⟩ = some (.int .i64 q.link) := by rw [a4.cell]; rfl
    have e4 : w4.cell? ⟨w3.heap.size, 4, none⟩ = some (.slice A' q.cells.length c') := by rw [a4.cell]; rfl
    have hne : (q.no != (k : Int)) = false := by simpa using hqn
    have HRE := Lib.hid (show rdP P k = .inr q by rw [HRD.out]; simp only; rw [if_pos hqn])
    have hlt3 := hz3.lt
    have hnb : bx ≠ w3.heap.size := by omega
    have HLX := Lib.hid (show ∀ i, X i → (Plus Y1 w9 w3) i from fun i hi => Or.inl (HYX.out i hi))
    have hrw := (own_rowP' hown).below b4
    clear h3 t3' hz3 b4 a4 hw4 hqn HRD hown
    go_upto_region 7 with fail
    try rw [← HW4.out]
    clear HW4
    have k0 : w4.cell? ⟨bx, 0, none⟩ = some (.int .i64 0) := by rw [At.cell hz4]; rfl
    have z0 := At.frozen hz4 0
    have k1 : w4.cell? ⟨bx, 1, none⟩ = some (.int .i64 0) := by rw [At.cell hz4]; rfl
    have z1 := At.frozen hz4 1
    have k2 : w4.cell? ⟨bx, 2, none⟩ = some (.int .i64 0) := by rw [At.cell hz4]; rfl
    have z2 := At.frozen hz4 2
    have k3 : w4.cell? ⟨bx, 3, none⟩ = some (.int .i64 0) := by rw [At.cell hz4]; rfl
    have z3 := At.frozen hz4 3
    have k4 : w4.cell? ⟨bx, 4, none⟩ = some (.slice none 0 0) := by rw [At.cell hz4]; rfl
    have z4 := At.frozen hz4 4
    have HZ := Lib.hid (PageTold2.set5 hz4 rfl (.int .i64 q.kind) (.int .i64 q.no) (.int .i64 q.epoch) (.int .i64 q.link) (.slice A' q.cells.length c'))
    have HC := Lib.hid (cr5 (bx := bx) h4 (Or.inl HYB.out) (.int .i64 q.kind) (.int .i64 q.no) (.int .i64 q.epoch) (.int .i64 q.link) (.slice A' q.cells.length c'))
    have HT := Lib.hid (turn5 (bx := bx) t4 HBX.out (.int .i64 q.kind) (.int .i64 q.no) (.int .i64 q.epoch) (.int .i64 q.link) (.slice A' q.cells.length c'))
    have HRW := Lib.hid (hrw.turn (t5 (bx := bx) w4 (.int .i64 q.kind) (.int .i64 q.no) (.int .i64 q.epoch) (.int .i64 q.link) (.slice A' q.cells.length c')) fun i hi z => by have := HB1.out; rw [show i = bx from z] at hi; omega)
    clear hrw
    clear hz4 h4 t4
    go_wp2_with fail
    refine bodyPost_ret (results_cell_tmp_row rfl _ _ bx 69 _ (0, 0) _ rfl HZ.out Tryz.underlying69 rfl (by kernel_rfl)) rfl ?_
    unfold ReadPost
    refine ⟨fun i => (Plus Y1 w9 w3) i ∧ W.heap.size ≤ i, (HC.out.up (by omega)).less fun i hi => hi.elim (HLX.out i) (fun z => z.1), fun b hb => hb.2, HT.out, ?_⟩
    rw [HRE.out]
    exact ⟨A', c', rfl, fun j v hv => by
     obtain ⟨ad, e1, e2, e3, e4⟩ := HRW.out j v hv
     obtain ⟨ad', e1', _, e3', _⟩ := HRO.out j v hv
     rw [e1] at e1'; injection e1' with e1'; subst e1'
     exact ⟨ad, e1, ⟨Or.inr ⟨e2, e3'⟩, by have := HB1.out; have := HBX.out; omega⟩, e3, e4⟩⟩
   ·have h4 := (HH2.out.plus h3 HSZ.out).below b4
    have t4 := t3'.step (Turn.ofBelow b4)
    have e1 : w4.cell? ⟨w3.heap.size, 1, none⟩ = some (.int .i64 q.no) := by rw [a4.cell]; rfl
    have hne : (q.no != (k : Int)) = true := by simpa using hqn
    have HRE := Lib.hid (show rdP P k = .inl 41 by rw [HRD.out]; simp only; rw [if_neg hqn])
    have HLX := Lib.hid (show ∀ i, X i → (Plus Y1 w9 w3) i from fun i hi => Or.inl (HYX.out i hi))
    clear h3 t3' hz3 b4 a4 hw4 hqn HRD hown
    go_upto_region 7 with fail
    try rw [← HW4.out]
    clear HW4
    have k0 : w4.cell? ⟨bx, 0, none⟩ = some (.int .i64 0) := by rw [At.cell hz4]; rfl
    have z0 := At.frozen hz4 0
    have k1 : w4.cell? ⟨bx, 1, none⟩ = some (.int .i64 0) := by rw [At.cell hz4]; rfl
    have z1 := At.frozen hz4 1
    have k2 : w4.cell? ⟨bx, 2, none⟩ = some (.int .i64 0) := by rw [At.cell hz4]; rfl
    have z2 := At.frozen hz4 2
    have k3 : w4.cell? ⟨bx, 3, none⟩ = some (.int .i64 0) := by rw [At.cell hz4]; rfl
    have z3 := At.frozen hz4 3
    have k4 : w4.cell? ⟨bx, 4, none⟩ = some (.slice none 0 0) := by rw [At.cell hz4]; rfl
    have z4 := At.frozen hz4 4
    have HZ := Lib.hid (PageTold2.set5 hz4 rfl (.int .i64 0) (.int .i64 0) (.int .i64 0) (.int .i64 0) (.slice none 0 0))
    have HC := Lib.hid (cr5 (bx := bx) h4 (Or.inl HYB.out) (.int .i64 0) (.int .i64 0) (.int .i64 0) (.int .i64 0) (.slice none 0 0))
    have HT := Lib.hid (turn5 (bx := bx) t4 HBX.out (.int .i64 0) (.int .i64 0) (.int .i64 0) (.int .i64 0) (.slice none 0 0))
    clear hz4 h4 t4
    go_wp2_with fail
    refine bodyPost_ret (results_cell_tmp_row rfl _ _ bx 69 _ (0, 0) _ rfl HZ.out Tryz.underlying69 rfl (by kernel_rfl)) rfl ?_
    unfold ReadPost
    refine ⟨fun i => (Plus Y1 w9 w3) i ∧ W.heap.size ≤ i, (HC.out.up (by omega)).less fun i hi => hi.elim (HLX.out i) (fun z => z.1), fun b hb => hb.2, HT.out, ?_⟩
    rw [HRE.out]
    rfl
 ·have HRD := Lib.hid (show rdP P no = .inl 81 by unfold rdP; rw [if_pos (by omega)])
  rw [decide_eq_false hh] at hhas
  have HLX := HYX
  clear h hh ha hS
  go_enter Tryz.func25, Tryz.ntmps25
  go_upto_region 1 with fail
  try rw [← HW.out]
  try rw [hbx]
  clear hbx HW
  go_wp2_with fail
  (with_reducible refine hhas.mono ?_)
  clear hhas
  rintro e w2 ⟨rfl, rfl⟩
  have k0 : w1.cell? ⟨bx, 0, none⟩ = some (.int .i64 0) := by rw [At.cell hz1]; rfl
  have z0 := At.frozen hz1 0
  have k1 : w1.cell? ⟨bx, 1, none⟩ = some (.int .i64 0) := by rw [At.cell hz1]; rfl
  have z1 := At.frozen hz1 1
  have k2 : w1.cell? ⟨bx, 2, none⟩ = some (.int .i64 0) := by rw [At.cell hz1]; rfl
  have z2 := At.frozen hz1 2
  have k3 : w1.cell? ⟨bx, 3, none⟩ = some (.int .i64 0) := by rw [At.cell hz1]; rfl
  have z3 := At.frozen hz1 3
  have k4 : w1.cell? ⟨bx, 4, none⟩ = some (.slice none 0 0) := by rw [At.cell hz1]; rfl
  have z4 := At.frozen hz1 4
  have HZ := Lib.hid (PageTold2.set5 hz1 rfl (.int .i64 0) (.int .i64 0) (.int .i64 0) (.int .i64 0) (.slice none 0 0))
  have HC := Lib.hid (cr5 (bx := bx) h1 HYB.out (.int .i64 0) (.int .i64 0) (.int .i64 0) (.int .i64 0) (.slice none 0 0))
  have HT := Lib.hid (turn5 (bx := bx) t1 HBX.out (.int .i64 0) (.int .i64 0) (.int .i64 0) (.int .i64 0) (.slice none 0 0))
  clear hz1 h1 t1
  go_wp2_with fail
  refine bodyPost_ret (results_cell_tmp_row rfl _ _ bx 69 _ (0, 0) _ rfl HZ.out Tryz.underlying69 rfl (by kernel_rfl)) rfl ?_
  unfold ReadPost
  refine ⟨fun i => Y1 i ∧ W.heap.size ≤ i, (HC.out.up (by omega)).less fun i hi => hi.elim (HLX.out i) (fun z => z.1), fun b hb => hb.2, HT.out, ?_⟩
  rw [HRD.out]
  rfl
end
end Go.Proofs.YtpidnkfcccboaaaGreat.PagerCode
