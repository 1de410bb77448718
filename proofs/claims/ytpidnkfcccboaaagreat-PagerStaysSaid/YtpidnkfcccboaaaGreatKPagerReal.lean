/- The program's own pager is what the laws' walks ask for. -/
import Derived.Test.YtpidnkfcccboaaaGreatKPagerChange
import Derived.Test.YtpidnkfcccboaaaGreatKPagerCommit
import Derived.Test.YtpidnkfcccboaaaGreatKPagerDrop
import Derived.Test.YtpidnkfcccboaaaGreatKPagerOpenC
import Derived.Test.YtpidnkfcccboaaaGreatKPagerRead
namespace Go.Proofs.YtpidnkfcccboaaaGreat.PagerCode
open Go.RowKit Base PagePlain PageSmall FreePlain FreeMem SuperPlain SuperRefCheck PagerPlain PagerTold PagerNum PagerSpec SumOf DiskPlain DiskMem DiskSmall PagerMem PagerDisk Go.Maps

section
variable {W w w' : World} {p d g mp : Nat} {S : DS} {P P' Q : PS} {F X Y G : Blks} {m m' : Int}
theorem Cw.up (h : Cw w p d g mp S P X m) (hm : m ≤ m') : Cw w p d g mp S P X m' := by
 obtain ⟨nn, FD, A, B, C, a, b, c, h⟩ := h
 exact ⟨_, _, _, _, _, _, _, _, h.up hm⟩
theorem agree_abort (ha : Agree S P) (hi : P.x.pages ≤ P.pg) : Agree S P.abort :=
 ⟨ha.most, ha.live, Int.le_trans hi ha.pg, ha.len, ha.rd, ha.rz⟩
theorem agree_drop (ha : Agree S P) (no : Int) : Agree S (P.drop no).1 := by
 unfold PS.drop
 split
 ·split
  ·exact ⟨ha.most, ha.live, ha.pg, ha.len, ha.rd, ha.rz⟩
  ·exact ⟨ha.most, ha.live, ha.pg, ha.len, ha.rd, ha.rz⟩
 ·exact ha
set_option maxRecDepth 100000 in
set_option maxHeartbeats 12800000 in
theorem fresh_any (w : World) (most : Int) (h1 : 2 ≤ most) (h2 : most ≤ 300) : Calls Tryz.prog 8 #[.int .i64 most] w fun e w' => ∃ p d F, e = .returned (.tuple #[.pointer (some ⟨p, 0, none⟩), .pointer (some ⟨d, 0, none⟩)]) ∧ M w' p d (freshP most) F 1000000 ∧ (∀ b, F b → w.heap.size ≤ b) ∧ Below w.heap.size w w' := by
 have hnew := new_dk w most (by omega) (by omega)
 have HM := Lib.hid (And.intro h1 h2)
 clear h1 h2
 go_enter Tryz.func8, Tryz.ntmps8
 go_wp2_with fail
 (with_reducible refine hnew.mono ?_)
 clear hnew
 rintro e w1 ⟨rfl, hd, hb⟩
 generalize hdd : w.heap.size + 1 = d at *
 have hdz : w.heap.size ≤ d := by omega
 clear hdd
 have hopen := open_new (X := fun i => i < w.heap.size) hd (fun i hi => ⟨hi.2, fun z => by have := hi.1; omega⟩) (fun i hi => Nat.lt_of_lt_of_le hi hb.size) HM.out.1 HM.out.2 rfl
 have HB := Lib.hid hb
 clear hd hb
 go_wp2_with fail
 (with_reducible refine hopen.mono ?_)
 clear hopen
 rintro e w2 ⟨p, g, mp, S', rfl, hc, ha, ht, hp⟩
 have H2 := Lib.hid (And.intro hc (And.intro ha ht))
 clear hc ha ht
 go_wp2_with fail
 go_ret2
 obtain ⟨hc, ha, ht⟩ := H2.out
 have hs := HB.out.size
 refine ⟨p, d, fun b => b < w2.heap.size ∧ ¬ b < w.heap.size, rfl, ⟨g, mp, S', fun i => i < w.heap.size, hc, ha, fun i hi hn => Classical.byContradiction fun z => hn ⟨hi, z⟩, fun b hb => hb⟩, fun b hb => by have := hb.2; omega, ?_⟩
 exact ht.belowOf HB.out hs fun b hb => by have : ¬ b < w.heap.size := hb; omega
theorem m_lt (h : M w p d P F m) : ∀ b, F b → b < w.heap.size := by
 obtain ⟨g, mp, S, X, _, _, _, h4⟩ := h
 exact fun b hb => (h4 b hb).1
theorem m_up (h : M w p d P F m) (hm : m ≤ m') : M w p d P F m' := by
 obtain ⟨g, mp, S, X, h1, h2, h3, h4⟩ := h
 exact ⟨g, mp, S, X, h1.up hm, h2, h3, h4⟩
theorem rowX_ (h3 : ∀ i, i < w.heap.size → ¬ F i → X i) {A : Option Addr} {vs : List Value} (hr : RowP w (fun b => ¬ F b) A vs) : RowP w X A vs := fun k v hv => by
 obtain ⟨ad, a, b, c, e⟩ := hr k v hv
 exact ⟨ad, a, h3 _ c b, c, e⟩
/-- the program's own pager -/
theorem real : Specs M where
 keep := fun h t hF => m_keep h t hF
 lt := fun h => m_lt h
 up := fun h hm => m_up h hm
 fresh := fresh_any
 again := fun {w p d P F m} h hf => by
  obtain ⟨g, mp, S, X, ⟨nn, FD, A, B, C, a, b, c, h1⟩, h2, h3, h4⟩ := h
  refine (open_old h1.dk (fun i hi => ⟨(h1.nf i hi).1, (h1.nf i hi).2.1⟩) h1.xl h2 hf.inv hf.told hf.few (by have := hf.ep; omega) hf.m0 h1.lo (by have := hf.m1; omega)).mono ?_
  rintro e w' ⟨q, g', mp', rfl, hc, ht, _⟩
  have ha : Agree S { P.abort with od := P.x.ep } := (agree_abort h2 hf.inv.xg).of rfl rfl rfl rfl
  obtain ⟨F', e1, e2, e3, _⟩ := m_gone0 h3 hc ha ht
  exact ⟨q, F', rfl, e1, e2, e3⟩
 super := fun h => by
  obtain ⟨g, mp, S, X, ⟨nn, FD, A, B, C, a, b, c, h1⟩, h2, h3, h4⟩ := h
  exact super_any h1
 pages := fun {w p d P F m} h => by
  obtain ⟨g, mp, S, X, ⟨nn, FD, A, B, C, a, b, c, h1⟩, h2, h3, h4⟩ := h
  refine (pages_any w p P.pg (pgc h1.st).1.2.2).mono ?_
  rintro e w' ⟨rfl, rfl⟩
  exact ⟨rfl, Below.refl _ _⟩
 free := fun h hf => by
  obtain ⟨g, mp, S, X, ⟨nn, FD, A, B, C, a, b, c, h1⟩, h2, h3, h4⟩ := h
  exact free_any h1 (by have i1 := hf.inv.len; have i2 := hf.inv.most; have i3 := hf.few; have i9 := few_free hf.inv; have i4 := hf.inv.xg; have i5 := hf.inv.xp; omega)
 chain := fun h hf => by
  obtain ⟨g, mp, S, X, ⟨nn, FD, A, B, C, a, b, c, h1⟩, h2, h3, h4⟩ := h
  exact chain_any h1 (by
   have i1 := hf.inv.len
   have i2 := hf.inv.most
   have i3 := hf.few
   have i4 := hf.inv.xg
   have i5 := hf.inv.xp
   have z := hf.inv.cn.length_le_of_subset (l₂ := FreeCov.rng 300) fun n hn => FreeCov.mem_rng.2 ⟨by have := (hf.inv.tc n hn).1; omega, by have := (hf.inv.tc n hn).2.1; omega⟩
   rw [FreeCov.len_rng] at z
   omega)
 read := fun {w p d P F m} no h hf _ => by
  obtain ⟨g, mp, S, X, ⟨nn, FD, A, B, C, a, b, c, h1⟩, h2, h3, h4⟩ := h
  refine (read_any h1 h2 (by have := hf.m1; omega) no).mono ?_
  rintro e w' ⟨N, hc, hN, ht, hp⟩
  exact ⟨N, m_gone h3 ⟨_, _, _, _, _, _, _, _, hc⟩ h2 (fun _ q => Or.inl q) ht fun b hb => ⟨hN b hb, hc.xl b (Or.inr hb), Or.inr hb⟩, hp⟩
 new := fun kind link cells K ck h hf _ _ hfc hr => by
  obtain ⟨g, mp, S, X, ⟨nn, FD, A, B, C, a, b, c, h1⟩, h2, h3, h4⟩ := h
  refine (new_any h1 h2 hf kind link K ck cells hfc (rowX_ h3 hr)).mono ?_
  rintro e w' ⟨rfl, ⟨S', hc, ha⟩, ht⟩
  exact ⟨rfl, m_gone0 h3 (hc.up (by omega)) ha ht⟩
 change := fun no kind link cells K ck h hf hn _ _ hfc hr => by
  obtain ⟨g, mp, S, X, ⟨nn, FD, A, B, C, a, b, c, h1⟩, h2, h3, h4⟩ := h
  refine (change_any h1 h2 hf no kind link hn K ck cells hfc (rowX_ h3 hr)).mono ?_
  rintro e w' ⟨rfl, ⟨S', hc, ha⟩, ht⟩
  exact ⟨rfl, m_gone0 h3 (hc.up (by omega)) ha ht⟩
 drop := fun no h hf hn => by
  obtain ⟨g, mp, S, X, ⟨nn, FD, A, B, C, a, b, c, h1⟩, h2, h3, h4⟩ := h
  refine (drop_any h1 hf no hn).mono ?_
  rintro e w' ⟨rfl, ⟨C', c', hc⟩, ht⟩
  exact ⟨rfl, m_gone0 h3 ⟨_, _, _, _, _, _, _, _, hc.up (by omega)⟩ (agree_drop h2 no) ht⟩
 commit := fun root h hf hn => by
  obtain ⟨g, mp, S, X, ⟨nn, FD, A, B, C, a, b, c, h1⟩, h2, h3, h4⟩ := h
  refine (commit_any h1 h2 hf root hn).mono ?_
  rintro e w' ⟨rfl, ⟨S', hc, ha⟩, ht⟩
  exact ⟨rfl, m_gone0 h3 (hc.up (by omega)) ha ht⟩
 abort := fun h hf => by
  obtain ⟨g, mp, S, X, ⟨nn, FD, A, B, C, a, b, c, h1⟩, h2, h3, h4⟩ := h
  refine (abort_any h1).mono ?_
  rintro e w' ⟨rfl, hc, ht⟩
  exact ⟨rfl, m_gone0 h3 ⟨_, _, _, _, _, _, _, _, hc.up (by omega)⟩ (agree_abort h2 hf.inv.xg) ht⟩
 oldest := fun ep h hf _ => by
  obtain ⟨g, mp, S, X, ⟨nn, FD, A, B, C, a, b, c, h1⟩, h2, h3, h4⟩ := h
  refine (oldest_any h1 ep).mono ?_
  rintro e w' ⟨rfl, hc, ht⟩
  exact ⟨rfl, m_gone0 h3 ⟨_, _, _, _, _, _, _, _, hc.up (by omega)⟩ (h2.of rfl rfl rfl rfl) ht⟩
end
end Go.Proofs.YtpidnkfcccboaaaGreat.PagerCode
