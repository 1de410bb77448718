/- The walk of PagerStays, by what the calls are asked for. -/
import Derived.Test.YtpidnkfcccboaaaGreatKInv4
import Derived.Test.YtpidnkfcccboaaaGreatKPagerKept
import Derived.Deep.CutBlock
namespace Go.Proofs.YtpidnkfcccboaaaGreat.PagerStays
open Go.RowKit Base PagePlain PageSmall FreePlain FreeMem SuperPlain SuperRefCheck PagerPlain PagerTold PagerNum PagerSpec PagerPlumb PagerLaw PagerDo PagerAwake PagerRun PagerKept DiskMem
open Go.Maps
open FreeCov (Cnt cnt_nil cnt_put kl vl D1)
open FreeCover (OM lawI zeroI wf_small)

/-- between two rounds of laying the free pages into the map -/
def L2 (M : Mem) (W : World) (p d : Nat) (P0 : PS) (ma : Int) (mb bx : Nat) (A1 : Option Addr) (k : Nat) (w : World) : Prop :=
  ∃ (S : Blks) (D : D1), PM M W w p d P0 ma S ∧ OM w mb k D ∧ Cnt (ks (P0.fl.take k)) D ∧ At w bx 29 #[.int .i64 P0.x.ep, .int .i64 P0.x.root, .int .i64 P0.x.free, .int .i64 P0.x.pages] ∧ RowP w (fun b => b ≠ mb) A1 (fr P0.fl) ∧ S mb ∧ S bx
/-- what was read of the first k pages -/
def Lt (P0 : PS) (k : Nat) (l : List Kp) (el : List Int) : Prop := l.map (·.1) = (List.range k).map (fun i : Nat => pgOf (rdP P0 (2 + (i : Int)))) ∧ el = (List.range k).map (fun i : Nat => erOf (rdP P0 (2 + (i : Int))))
theorem lt_more {P0 : PS} {k : Nat} {l : List Kp} {el : List Int} {no ez : Int} {pq : Pg} {A : Option Addr} {c : Nat} (h : Lt P0 k l el) (hno : no = 2 + (k : Int)) (hp : pq = pgOf (rdP P0 no)) (hz : ez = erOf (rdP P0 no)) : Lt P0 (k + 1) (l ++ [(pq, A, c)]) (el ++ [ez]) := by
  obtain ⟨h1, h2⟩ := h
  subst hno
  refine ⟨?_, ?_⟩
  · rw [List.range_succ, List.map_append, List.map_append, h1, hp]; rfl
  · rw [List.range_succ, List.map_append, h2, hz]; rfl
theorem lt_at {P0 : PS} {k n : Nat} {l : List Kp} {el : List Int} {no : Int} (h : Lt P0 n l el ∧ l.length = n ∧ P0.pg = 2 + (n : Int)) (hk : k < n) (hno : no = 2 + (k : Int)) : ∃ (Ax : Option Addr) (cx : Nat), l[k]? = some (pgOf (rdP P0 no), Ax, cx) ∧ el[k]? = some (erOf (rdP P0 no)) := by
  obtain ⟨⟨h1, h2⟩, h3, _⟩ := h
  subst hno
  have hl : k < l.length := by omega
  have e1 : (l.map (·.1))[k]? = ((List.range n).map (fun i : Nat => pgOf (rdP P0 (2 + (i : Int)))))[k]? := by rw [h1]
  simp [hl, hk] at e1
  refine ⟨l[k].2.1, l[k].2.2, ?_, ?_⟩
  · rw [List.getElem?_eq_getElem hl, ← e1]
  · rw [h2]; simp [hk]
theorem few_cells (P : PS) (no : Int) : (pgOf (rdP P no)).cells.length ≤ maxLen := by
  unfold rdP
  split
  · exact Nat.zero_le _
  · split
    · exact Nat.zero_le _
    · rename_i q hq
      unfold PageGet.gotE at hq
      split at hq
      · split at hq
        · split at hq
          · cases hq
          · rename_i p hp
            injection hq with hq
            subst hq
            have := (got_out hp).1
            unfold room at this
            split
            · show p.cells.length ≤ _
              unfold maxLen
              omega
            · exact Nat.zero_le _
        · cases hq
      · cases hq
theorem idx_page {A : Option Addr} {ab ao n c j : Nat} (hA : A = some ⟨ab, ao, none⟩) (hj : j < n) (w : World) : (Instr.indexAt 30 (.slice A n c) (.int .i64 (j : Int))).run Tryz.prog w = .ok (.pointer (some ⟨ab, ao + j * 5, none⟩)) w := by
  subst hA
  have h2 : (j : Int) < n := by omega
  go_simp
section
variable {M : Mem} {W w : World} {p d : Nat} {P P0 : PS} {m : Int} {S : Blks} {mb nf : Nat} {D : D1} {bx B : Nat} {l : List Kp} {el : List Int} {A : Option Addr} {c : Nat} {A' : Option Addr} {c' : Nat}
theorem _root_.Go.Proofs.YtpidnkfcccboaaaGreat.PagerKept.Kd.pageAt (h : Kd M W p d P P0 m S mb nf D bx B l el A c A' c' w) {k : Nat} {q : Pg} {Ax : Option Addr} {cx : Nat} (hx : l[k]? = some (q, Ax, cx)) :
    ∃ ab ao, A = some ⟨ab, ao, none⟩ ∧ ∀ w', Kd M W p d P P0 m S mb nf D bx B l el A c A' c' w' → w'.cell? ⟨ab, ao + k * 5, none⟩ = some (.int .i64 q.kind) ∧ w'.cell? ⟨ab, ao + k * 5 + 1, none⟩ = some (.int .i64 q.no) ∧ w'.cell? ⟨ab, ao + k * 5 + 2, none⟩ = some (.int .i64 q.epoch) ∧ w'.cell? ⟨ab, ao + k * 5 + 3, none⟩ = some (.int .i64 q.link) ∧ w'.cell? ⟨ab, ao + k * 5 + 4, none⟩ = some (.slice Ax q.cells.length cx) := by
  have hl : 0 < l.length := by have := (List.getElem?_eq_some_iff.1 hx).1; omega
  obtain ⟨g, cap, e1, _, _⟩ := World.ownsRow.form h.was hl
  have hA : A = some ⟨g, 0, none⟩ := by injection e1
  refine ⟨g, 0, hA, fun w' h' => ?_⟩
  have key : ∀ j v, (five (q, Ax, cx))[j]? = some v → j < 5 → w'.cell? ⟨g, 0 + k * 5 + j, none⟩ = some v := fun j v hv hj => by
    obtain ⟨ad, a1, a2, a3⟩ := h'.was.row (k * 5 + j) v ((pgs_at hx hj).trans hv)
    rw [hA] at a1
    injection a1 with a1
    subst a1
    have e : (⟨g, 0, none⟩ : Addr).add (k * 5 + j) = ⟨g, 0 + k * 5 + j, none⟩ := by unfold Addr.add; split <;> simp_all
    rw [e] at a3
    exact a3
  exact ⟨key 0 _ rfl (by omega), key 1 _ rfl (by omega), key 2 _ rfl (by omega), key 3 _ rfl (by omega), key 4 _ rfl (by omega)⟩
theorem _root_.Go.Proofs.YtpidnkfcccboaaaGreat.PagerKept.Kd.errAt (h : Kd M W p d P P0 m S mb nf D bx B l el A c A' c' w) {k : Nat} {z : Int} (hx : el[k]? = some z) :
    ∃ ae, A' = some ae ∧ ∀ w', Kd M W p d P P0 m S mb nf D bx B l el A c A' c' w' → w'.cell? (ae.add k) = some (.int .i64 z) := by
  have hv : (intsV el)[k]? = some (.int .i64 z) := by simp [intsV, hx]
  obtain ⟨ae, a1, _, _⟩ := h.ers.row k _ hv
  refine ⟨ae, a1, fun w' h' => ?_⟩
  obtain ⟨ad, b1, _, b3⟩ := h'.ers.row k _ hv
  rw [a1] at b1
  injection b1 with b1
  subst b1
  exact b3
theorem super_done (X : Specs M) {w0 u : World} (h0 : PM M W w0 p d P m (fun b => b < W.heap.size)) (hb : Below w0.heap.size w0 u) (x : At u bx 29 #[.int .i64 0, .int .i64 0, .int .i64 0, .int .i64 0]) (hbz : w0.heap.size ≤ bx) :
    ∃ Sc, PM M W ((((u.setCell ⟨bx, 0, none⟩ (.int .i64 P.x.ep)).setCell ⟨bx, 1, none⟩ (.int .i64 P.x.root)).setCell ⟨bx, 2, none⟩ (.int .i64 P.x.free)).setCell ⟨bx, 3, none⟩ (.int .i64 P.x.pages)) p d P m Sc ∧ At ((((u.setCell ⟨bx, 0, none⟩ (.int .i64 P.x.ep)).setCell ⟨bx, 1, none⟩ (.int .i64 P.x.root)).setCell ⟨bx, 2, none⟩ (.int .i64 P.x.free)).setCell ⟨bx, 3, none⟩ (.int .i64 P.x.pages)) bx 29 #[.int .i64 P.x.ep, .int .i64 P.x.root, .int .i64 P.x.free, .int .i64 P.x.pages] ∧ Sc bx := by
  have t : Turn (fun i => i = bx) u ((((u.setCell ⟨bx, 0, none⟩ (.int .i64 P.x.ep)).setCell ⟨bx, 1, none⟩ (.int .i64 P.x.root)).setCell ⟨bx, 2, none⟩ (.int .i64 P.x.free)).setCell ⟨bx, 3, none⟩ (.int .i64 P.x.pages)) :=
    ((((Turn.refl (fun i => i = bx) u).set ⟨bx, 0, none⟩ (Or.inr rfl) _).set ⟨bx, 1, none⟩ (Or.inr rfl) _).set ⟨bx, 2, none⟩ (Or.inr rfl) _).set ⟨bx, 3, none⟩ (Or.inr rfl) _
  have hx := x.lt
  have h1 := h0.more X hb
  have hlo : W.heap.size ≤ w0.heap.size := h0.base.size
  have h2 := pm_own X h1 t (fun b hbu hbe => ⟨Or.inr ⟨by have : b = bx := hbe; omega, hbu⟩, by have : b = bx := hbe; omega⟩)
  refine ⟨_, h2, ?_, Or.inl (Or.inr ⟨hbz, hx⟩)⟩
  have hh : u.heap[bx]? = some _ := x
  show _ = _
  simp [World.setCell, Array.getElem?_modify, hh]
end
set_option maxRecDepth 100000 in
set_option maxHeartbeats 51200000 in
theorem stays_any {M : Mem} (X : Specs M) (W : World) (XA XB : Option Addr) (cx cy : Nat) (xs ys : List PA) (hA : Acts W XA xs) (hB : Acts W XB ys) (hx : xs.length ≤ maxLen) (hy : ys.length ≤ maxLen) :
    Calls Tryz.prog 5 #[.slice XA xs.length cx, .slice XB ys.length cy] W (Law W) := by
  have HXS := Lib.hid hA
  have HYS := Lib.hid hB
  clear hA hB
  unfold maxLen at hx hy
  unfold Law
  have hcall := X.fresh W 200 (by omega) (by omega)
  go_enter Tryz.func5, Tryz.ntmps5
  go_wp2_with fail
  (with_reducible refine hcall.mono ?_)
  clear hcall
  rintro e w1 ⟨p, d, F, rfl, hm, hF, hb⟩
  have h1 : PM M W w1 p d (freshP 200) 1000000 (fun b => b < W.heap.size) := pm_fresh hm hF hb
  clear hm hF hb
  have hcall := awake_any X w1
  unfold Law at hcall
  go_wp2_with fail
  (with_reducible refine hcall.mono ?_)
  clear hcall
  rintro e w2 ⟨rfl, b2⟩
  have h2 := h1.below X b2
  clear h1 b2
  have HR0 := Lib.hid (show Run M W w2 w2 p d (fun b => b < W.heap.size) 10 0 (fun _ => True) from ⟨_, _, h2, fine_fresh (by omega) (by omega), by omega, by show (1 : Int) ≤ _; omega, trivial, Turn.refl _ _⟩)
  clear h2
  go_upto_block 0 with fail
  go_cut [7] (fun s7 wx => s7 = s7 ∧ ∃ k : Nat, k ≤ 25 ∧ Run M W w2 wx p d (fun b => b < W.heap.size) 10 k (fun _ => True))
  case first =>
    go_wp2_with fail
    go_loopw [7] (fun i wr => ∃ kA : Nat, kA ≤ xs.length ∧ kA ≤ 25 ∧ i = .int .i64 kA ∧ Run M W w2 wr p d (fun b => b < W.heap.size) 10 kA (fun _ => True)) (fun i _ => 25 - (intOf i).toNat)
    case atStart => exact ⟨0, by omega, by omega, rfl, HR0.out⟩
    case round =>
      obtain ⟨kA, hk, hkb, rfl, hrun⟩ := hrel
      by_cases hlt : kA < xs.length ∧ kA < 25
      · obtain ⟨hl1, hl2⟩ := hlt
        obtain ⟨x, hx⟩ : ∃ x, xs[kA]? = some x := ⟨_, List.getElem?_eq_getElem hl1⟩
        obtain ⟨ab, ao, K, ck, hat⟩ := Acts.at HXS.out hrun.base hx
        have hidx := idx_acts (n := xs.length) (c := cx) hat.hA hl1
        obtain ⟨c0, c1, c2, c3, c4, c5, c6⟩ : _ ∧ _ ∧ _ ∧ _ ∧ _ ∧ _ ∧ _ := ⟨hat.c0, hat.c1, hat.c2, hat.c3, hat.c4, hat.c5, hat.c6⟩
        have hcall := few_any wr x K ck hat.row hat.ok.few
        have HAT := Lib.hid hat
        have HRUN := Lib.hid hrun
        clear hat hrun hx
        by_cases hfew : x.cells.length ≤ 130 ∧ ∀ q ∈ x.cells, q.size ≤ 300
        rotate_left
        · rw [decide_eq_false hfew] at hcall
          clear hfew
          go_wp2_with fail
          (with_reducible refine hcall.mono ?_)
          clear hcall c0 c1 c2 c3 c4 c5 c6
          rintro e wf ⟨rfl, bf⟩
          go_wp2_with fail
          go_roundw
          case rel => exact ⟨kA + 1, by omega, by omega, by go_num, HRUN.out.skip X bf (fun _ _ => trivial)⟩
          case measure => simp [intOf]; omega
        rw [decide_eq_true hfew] at hcall
        have HFEW := Lib.hid hfew
        clear hfew
        go_wp2_with fail
        (with_reducible refine hcall.mono ?_)
        clear hcall c0 c1 c2 c3 c4 c5 c6
        rintro e wf ⟨rfl, bf⟩
        have hat := HAT.out.below bf
        obtain ⟨c0, c1, c2, c3, c4, c5, c6⟩ : _ ∧ _ ∧ _ ∧ _ ∧ _ ∧ _ ∧ _ := ⟨hat.c0, hat.c1, hat.c2, hat.c3, hat.c4, hat.c5, hat.c6⟩
        obtain ⟨P, m, hpm, hfn, hm, hep, hR, htn⟩ := HRUN.out
        have hcall := do_any X (hpm.below X bf) hfn x hat.ok K ck HFEW.out hat.row
        have HS := Lib.hid (And.intro hfn (And.intro hm (And.intro hep (And.intro hR (htn.step (Turn.ofBelow bf))))))
        clear hat hpm hfn hm hep hR htn HRUN HAT bf
        go_wp2_with fail
        (with_reducible refine hcall.mono ?_)
        clear hcall c0 c1 c2 c3 c4 c5 c6
        rintro e wg ⟨rfl, hpm, htn⟩
        have HN := Lib.hid (show Run M W w2 wg p d (fun b => b < W.heap.size) 10 (kA + 1) (fun _ => True) from run_do hpm htn HS.out.2.2.2.2 HS.out.1 HS.out.2.1 HS.out.2.2.1 (by omega) (by omega) (trivial))
        go_wp2_with fail
        go_roundw
        case rel => exact ⟨kA + 1, by omega, by omega, by go_num, HN.out⟩
        case measure => simp [intOf]; omega
      have hex : (xs.length ≤ kA) ∨ (kA < xs.length ∧ 25 ≤ kA) := by omega
      rcases hex with hex | ⟨hex, hex2⟩
      · have HRUN := Lib.hid hrun
        clear hrun HR0
        go_wp2_with fail
        go_meet
        exact ⟨trivial, _, by omega, HRUN.out⟩
      · have HRUN := Lib.hid hrun
        clear hrun HR0
        go_wp2_with fail
        go_meet
        exact ⟨trivial, _, by omega, HRUN.out⟩
  case rest =>
    obtain ⟨_, kA, hkb, hrun⟩ := hcut
    clear HR0
    have HRUN := Lib.hid hrun
    clear hrun
    go_upto_region 9 with fail
    obtain ⟨Pa, ma, hpm, hfn, hm, hep, _, _⟩ := HRUN.out
    have hcall := pm_abort X hpm hfn
    have hf0 := fine_abort hfn (by omega)
    have HP0 := Lib.hid (show Pa.abort.pg = Pa.abort.x.pages ∧ Pa.abort.fl = Pa.abort.tf ∧ Fine Pa.abort (ma + 1000000) ∧ 2 ≤ Pa.abort.pg ∧ Pa.abort.pg ≤ 300 ∧ ma + 1000000 ≤ 1000000 * 100 ∧ Pa.abort.x.ep ≤ 100 from ⟨rfl, rfl, hf0, by have := hf0.inv.xp; have := hf0.inv.xg; omega, by have := hf0.inv.len; have := hf0.inv.most; have := hf0.few; omega, by omega, by show Pa.x.ep ≤ _; omega⟩)
    clear HRUN hpm hfn hm hep hf0
    go_wp2_with fail
    (with_reducible refine hcall.mono ?_)
    clear hcall
    rintro e wa ⟨rfl, ha, _⟩
    generalize Pa.abort = P0 at ha HP0
    generalize ma + 1000000 = ma at ha HP0
    go_upto_region 10 with fail
    have h0 := ha.below X (w' := wa.drew) (Below.refl _ _).drew
    clear ha
    go_cut [8, 9] (fun s8 s9 wx => ∃ (bx : Nat) (Sc : Blks), s8 = .pointer (some ⟨bx, 0, none⟩) ∧ s9 = .int .i64 P0.pg ∧ PM M W wx p d P0 ma Sc ∧ At wx bx 29 #[.int .i64 P0.x.ep, .int .i64 P0.x.root, .int .i64 P0.x.free, .int .i64 P0.x.pages] ∧ Sc bx)
    case first =>
      refine wp_region_any (by kernel_rfl) ?_
      change wpAny _ _ _ _ _ _ _ (World.drew _)
      obtain ⟨u0, hu0⟩ : ∃ v, v = World.drew wa := ⟨_, rfl⟩
      rw [← hu0] at h0
      rw [← hu0]
      clear hu0
      have hp := h0
      have hb : Below u0.heap.size u0 u0 := Below.refl _ _
      refine Reg.take_at (i := 0) (d := 59) (v := ?_) rfl rfl (by kernel_rfl) (by kernel_rfl) (by kernel_rfl) (fun _ _ _ h => h) (Or.inl ⟨by rfl, ?_⟩) ?_
      rotate_left 1
      · intro w; go_simp <;> with_reducible rfl
      simp only [Act.put, List.setIfInBounds_toArray, List.set_cons_zero, List.set_cons_succ]
      refine Reg.take_at (i := 2) (d := 61) (v := ?_) rfl rfl (by kernel_rfl) (by kernel_rfl) (by kernel_rfl) (fun _ _ _ h => h) (Or.inl ⟨by rfl, ?_⟩) ?_
      rotate_left 1
      · intro w; go_simp <;> with_reducible rfl
      simp only [Act.put, List.setIfInBounds_toArray, List.set_cons_zero, List.set_cons_succ]
      refine Reg.take_at (i := 3) (d := 62) (v := ?_) rfl rfl (by kernel_rfl) (by kernel_rfl) (by kernel_rfl) (fun _ _ _ h => h) (Or.inl ⟨by rfl, ?_⟩) ?_
      rotate_left 1
      · intro w; go_simp <;> with_reducible rfl
      simp only [Act.put, List.setIfInBounds_toArray, List.set_cons_zero, List.set_cons_succ]
      refine Reg.take_at (i := 4) (d := 63) (v := ?_) rfl rfl (by kernel_rfl) (by kernel_rfl) (by kernel_rfl) (fun _ _ _ h => h) (Or.inl ⟨by rfl, ?_⟩) ?_
      rotate_left 1
      · intro w; go_simp <;> with_reducible rfl
      simp only [Act.put, List.setIfInBounds_toArray, List.set_cons_zero, List.set_cons_succ]
      refine wpAny_ready (rs := [1, 6]) (by decide +kernel) (by simp) ?_
      refine AllReady.cons rfl (fun KK hK => ?_) ?_
      · go_simp
        have hh : Calls Tryz.prog 16 #[.pointer (some ⟨p, 0, none⟩)] u0 (fun e w' => e = .returned (.agg #[.int .i64 P0.x.ep, .int .i64 P0.x.root, .int .i64 P0.x.free, .int .i64 P0.x.pages]) ∧ Below u0.heap.size u0 w') := pm_super X hp
        (with_reducible refine hh.mono ?_)
        clear hh
        rintro e u1 ⟨rfl, bb⟩
        replace hp := hp.below X bb
        replace hb := Below.step hb bb
        clear bb
        go_simp
        refine hK _ _ ?_
        clear hK KK
        refine wpAny_ready (rs := [5, 6]) (by decide +kernel) (by simp) ?_
        refine AllReady.cons rfl (fun KK hK => ?_) ?_
        · go_simp
          have hh := pm_pages X hp
          (with_reducible refine hh.mono ?_)
          clear hh
          rintro e u2 ⟨rfl, bb⟩
          replace hp := hp.below X bb
          replace hb := Below.step hb bb
          clear bb
          go_simp
          refine hK _ _ ?_
          clear hK KK
          refine wpAny_ready (rs := [6]) (by decide +kernel) (by simp) ?_
          refine AllReady.cons rfl (fun KK hK => ?_) AllReady.nil
          go_simp
          refine hK _ _ ?_
          clear hK KK
          obtain ⟨u3, hu⟩ : ∃ v, v = u2.alloc (.cells #[.int .i64 0, .int .i64 0, .int .i64 0, .int .i64 0] 29) := ⟨_, rfl⟩
          rw [← hu]
          obtain ⟨bx, hbx⟩ : ∃ v, v = u2.heap.size := ⟨_, rfl⟩
          rw [← hbx]
          have bb : Below u2.heap.size u2 u3 := by rw [hu]; exact al' _ _
          have hbz : u0.heap.size ≤ bx := by rw [hbx]; exact hb.size
          replace hp := hp.below X bb
          replace hb := Below.step hb bb
          clear bb
          have x : At u3 bx 29 #[.int .i64 0, .int .i64 0, .int .i64 0, .int .i64 0] := by rw [hu, hbx]; exact heap_alloc_new _ _
          clear hu hbx
          refine wpAny_ready (rs := [7]) (by decide +kernel) (by simp) ?_
          refine AllReady.cons rfl (fun KK hK => ?_) AllReady.nil
          obtain ⟨d0, d1, d2, d3⟩ := four_at x
          have q0 := x.frozen 0
          have q1 := x.frozen 1
          have q2 := x.frozen 2
          have q3 := x.frozen 3
          go_simp
          refine hK _ _ ?_
          clear hK KK d0 d1 d2 d3 q0 q1 q2 q3
          obtain ⟨Sq, hp, x, hs⟩ := super_done X h0 hb x hbz
          skip
          refine Reg.take_at (i := 8) (d := 9) (v := ?_) rfl rfl (by kernel_rfl) (by kernel_rfl) (by kernel_rfl) (fun _ _ _ h => h) (Or.inl ⟨by rfl, ?_⟩) ?_
          rotate_left 1
          · intro w; go_simp <;> with_reducible rfl
          simp only [Act.put, List.setIfInBounds_toArray, List.set_cons_zero, List.set_cons_succ]
          refine wpAny_done (by kernel_rfl) ?_ _
          clear hb h0
          go_wp2_with fail
          go_meet
          exact ⟨bx, Sq, rfl, rfl, hp, x, hs⟩
        refine AllReady.cons rfl (fun KK hK => ?_) AllReady.nil
        go_simp
        refine hK _ _ ?_
        clear hK KK
        obtain ⟨u2, hu⟩ : ∃ v, v = u1.alloc (.cells #[.int .i64 0, .int .i64 0, .int .i64 0, .int .i64 0] 29) := ⟨_, rfl⟩
        rw [← hu]
        obtain ⟨bx, hbx⟩ : ∃ v, v = u1.heap.size := ⟨_, rfl⟩
        rw [← hbx]
        have bb : Below u1.heap.size u1 u2 := by rw [hu]; exact al' _ _
        have hbz : u0.heap.size ≤ bx := by rw [hbx]; exact hb.size
        replace hp := hp.below X bb
        replace hb := Below.step hb bb
        clear bb
        have x : At u2 bx 29 #[.int .i64 0, .int .i64 0, .int .i64 0, .int .i64 0] := by rw [hu, hbx]; exact heap_alloc_new _ _
        clear hu hbx
        refine wpAny_ready (rs := [5]) (by decide +kernel) (by simp) ?_
        refine AllReady.cons rfl (fun KK hK => ?_) AllReady.nil
        go_simp
        have hh := pm_pages X hp
        (with_reducible refine hh.mono ?_)
        clear hh
        rintro e u3 ⟨rfl, bb⟩
        replace hp := hp.below X bb
        replace hb := Below.step hb bb
        replace x := atb x bb
        clear bb
        go_simp
        refine hK _ _ ?_
        clear hK KK
        refine wpAny_ready (rs := [7]) (by decide +kernel) (by simp) ?_
        refine AllReady.cons rfl (fun KK hK => ?_) AllReady.nil
        obtain ⟨d0, d1, d2, d3⟩ := four_at x
        have q0 := x.frozen 0
        have q1 := x.frozen 1
        have q2 := x.frozen 2
        have q3 := x.frozen 3
        go_simp
        refine hK _ _ ?_
        clear hK KK d0 d1 d2 d3 q0 q1 q2 q3
        obtain ⟨Sq, hp, x, hs⟩ := super_done X h0 hb x hbz
        skip
        refine Reg.take_at (i := 8) (d := 9) (v := ?_) rfl rfl (by kernel_rfl) (by kernel_rfl) (by kernel_rfl) (fun _ _ _ h => h) (Or.inl ⟨by rfl, ?_⟩) ?_
        rotate_left 1
        · intro w; go_simp <;> with_reducible rfl
        simp only [Act.put, List.setIfInBounds_toArray, List.set_cons_zero, List.set_cons_succ]
        refine wpAny_done (by kernel_rfl) ?_ _
        clear hb h0
        go_wp2_with fail
        go_meet
        exact ⟨bx, Sq, rfl, rfl, hp, x, hs⟩
      refine AllReady.cons rfl (fun KK hK => ?_) AllReady.nil
      go_simp
      refine hK _ _ ?_
      clear hK KK
      obtain ⟨u1, hu⟩ : ∃ v, v = u0.alloc (.cells #[.int .i64 0, .int .i64 0, .int .i64 0, .int .i64 0] 29) := ⟨_, rfl⟩
      rw [← hu]
      obtain ⟨bx, hbx⟩ : ∃ v, v = u0.heap.size := ⟨_, rfl⟩
      rw [← hbx]
      have bb : Below u0.heap.size u0 u1 := by rw [hu]; exact al' _ _
      have hbz : u0.heap.size ≤ bx := by rw [hbx]; exact hb.size
      replace hp := hp.below X bb
      replace hb := Below.step hb bb
      clear bb
      have x : At u1 bx 29 #[.int .i64 0, .int .i64 0, .int .i64 0, .int .i64 0] := by rw [hu, hbx]; exact heap_alloc_new _ _
      clear hu hbx
      refine wpAny_ready (rs := [1]) (by decide +kernel) (by simp) ?_
      refine AllReady.cons rfl (fun KK hK => ?_) AllReady.nil
      go_simp
      have hh : Calls Tryz.prog 16 #[.pointer (some ⟨p, 0, none⟩)] u1 (fun e w' => e = .returned (.agg #[.int .i64 P0.x.ep, .int .i64 P0.x.root, .int .i64 P0.x.free, .int .i64 P0.x.pages]) ∧ Below u1.heap.size u1 w') := pm_super X hp
      (with_reducible refine hh.mono ?_)
      clear hh
      rintro e u2 ⟨rfl, bb⟩
      replace hp := hp.below X bb
      replace hb := Below.step hb bb
      replace x := atb x bb
      clear bb
      go_simp
      refine hK _ _ ?_
      clear hK KK
      refine wpAny_ready (rs := [5]) (by decide +kernel) (by simp) ?_
      refine AllReady.cons rfl (fun KK hK => ?_) AllReady.nil
      go_simp
      have hh := pm_pages X hp
      (with_reducible refine hh.mono ?_)
      clear hh
      rintro e u3 ⟨rfl, bb⟩
      replace hp := hp.below X bb
      replace hb := Below.step hb bb
      replace x := atb x bb
      clear bb
      go_simp
      refine hK _ _ ?_
      clear hK KK
      refine wpAny_ready (rs := [7]) (by decide +kernel) (by simp) ?_
      refine AllReady.cons rfl (fun KK hK => ?_) AllReady.nil
      obtain ⟨d0, d1, d2, d3⟩ := four_at x
      have q0 := x.frozen 0
      have q1 := x.frozen 1
      have q2 := x.frozen 2
      have q3 := x.frozen 3
      go_simp
      refine hK _ _ ?_
      clear hK KK d0 d1 d2 d3 q0 q1 q2 q3
      obtain ⟨Sq, hp, x, hs⟩ := super_done X h0 hb x hbz
      skip
      refine Reg.take_at (i := 8) (d := 9) (v := ?_) rfl rfl (by kernel_rfl) (by kernel_rfl) (by kernel_rfl) (fun _ _ _ h => h) (Or.inl ⟨by rfl, ?_⟩) ?_
      rotate_left 1
      · intro w; go_simp <;> with_reducible rfl
      simp only [Act.put, List.setIfInBounds_toArray, List.set_cons_zero, List.set_cons_succ]
      refine wpAny_done (by kernel_rfl) ?_ _
      clear hb h0
      go_wp2_with fail
      go_meet
      exact ⟨bx, Sq, rfl, rfl, hp, x, hs⟩
    case rest =>
      obtain ⟨bx, Sc, rfl, rfl, hpm, hx, hs⟩ := hcut
      clear h0
      have hmm := @run_makeMap Tryz.prog
      obtain ⟨wm, hwm⟩ : ∃ v, v = wc.alloc (.map #[] 0) := ⟨_, rfl⟩
      have bm : Below wc.heap.size wc wm := by rw [hwm]; exact al' _ _
      have om : OM wm wc.heap.size 0 (.map []) := by rw [hwm]; exact World.ownsMap_made _ _ _ _
      have hm1 := hpm.more X bm
      have hx1 := atb hx bm
      have hsx : Plus Sc wc wm bx := Or.inl hs
      have hsm : Plus Sc wc wm wc.heap.size := Or.inr ⟨Nat.le_refl _, om.lt⟩
      have hmbW : W.heap.size ≤ wc.heap.size := hpm.base.size
      have hbm : bx < wc.heap.size := hx.lt
      obtain ⟨mb, hmb⟩ : ∃ v, v = wc.heap.size := ⟨_, rfl⟩
      rw [← hmb] at om hsm hmbW hbm
      generalize Plus Sc wc wm = S1 at hm1 hsx hsm
      have HWM := Lib.hid hwm
      clear hwm hpm hx hs bm
      go_upto_region 12 with fail
      try rw [← HWM.out]
      try rw [← hmb]
      clear HWM hmb
      have hcall := X.free hm1.mem.choose_spec.1 HP0.out.2.2.1
      go_wp2_with fail
      (with_reducible refine hcall.mono ?_)
      clear hcall
      rintro e wf ⟨A1, k1, rfl, bf, rf⟩
      have HL0 := Lib.hid (show L2 M W p d P0 ma mb bx A1 0 wf from ⟨S1, .map [], hm1.below X bf, om_same om (bf.block _ om.lt), cnt_nil, atb hx1 bf, rf.wide (fun b hb => by have := om.lt; show b ≠ mb; omega), hsm, hsx⟩)
      clear hm1 hx1 hsm hsx om bf rf hmm
      go_wp2_with fail
      go_loopw [12] (fun i wr => ∃ k : Nat, k ≤ P0.fl.length ∧ i = .int .i64 k ∧ L2 M W p d P0 ma mb bx A1 k wr) (fun i _ => P0.fl.length - (intOf i).toNat)
      case atStart => exact ⟨0, by omega, rfl, HL0.out⟩
      case round =>
        clear HL0
        obtain ⟨k, hk, rfl, S, D, hpm, hom, hcnt, hx, hr, hsm, hsx⟩ := hrel
        by_cases hlt : k < P0.fl.length
        rotate_left
        · obtain rfl : k = P0.fl.length := by omega
          rw [List.take_of_length_le (Nat.le_refl _)] at hcnt
          have HCNT := Lib.hid hcnt
          clear hcnt hr hk
          obtain ⟨w5, hw5⟩ : ∃ v, v = wr.alloc (.cells #[] 69) := ⟨_, rfl⟩
          have b5 : Below wr.heap.size wr w5 := by rw [hw5]; exact al' _ _
          obtain ⟨w6, hw6⟩ : ∃ v, v = w5.alloc (.cells #[] 40) := ⟨_, rfl⟩
          have b6 : Below w5.heap.size w5 w6 := by rw [hw6]; exact al' _ _
          have hs5 : w5.heap.size = wr.heap.size + 1 := by rw [hw5]; simp
          have hs6 : w6.heap.size = wr.heap.size + 2 := by rw [hw6]; simp [hs5]
          have was : OwnP w6 wr.heap.size (some ⟨wr.heap.size, 0, none⟩) 0 [] := (show OwnP w5 wr.heap.size (some ⟨wr.heap.size, 0, none⟩) 0 [] from by rw [hw5]; exact OwnP.empty wr (Nat.le_refl _)).later b6
          have ers : Own w6 wr.heap.size 40 (some ⟨wr.heap.size + 1, 0, none⟩) 0 (intsV []) := by rw [hw6, ← hs5]; exact Own.empty w5 _ (by omega)
          have b56 : Below wr.heap.size wr w6 := Below.step b5 b6
          have hml := hom.lt
          have hxl := hx.lt
          have HK0 := Lib.hid (show Kd M W p d P0 P0 ma (Plus S wr w6) mb P0.fl.length D bx wr.heap.size [] [] (some ⟨wr.heap.size, 0, none⟩) 0 (some ⟨wr.heap.size + 1, 0, none⟩) 0 w6 from
            ⟨hpm.more X b56, om_same hom (b56.block _ hml), atb hx b56, ⟨Or.inl hsm, Or.inl hsx⟩, ⟨Nat.le_trans hmbW (Nat.le_of_lt hml), hml, hxl⟩, b56.size, was, ers,
             fun b hb => by have e := Option.some.inj hb; simp only at e; exact Or.inr ⟨by omega, by omega⟩, fun b hb => by have e := Option.some.inj hb; simp only at e; exact Or.inr ⟨by omega, by omega⟩,
             fun b hb hc => by have e := Option.some.inj hb; have e' := Option.some.inj hc; simp only at e e'; omega, fun x hx => by cases hx⟩)
          have HW5 := Lib.hid hw5
          have HW6 := Lib.hid hw6
          clear hw5 hw6 b5 b6 was ers b56 hml hxl hpm hom hx hs6
          obtain ⟨nf, hnf⟩ : ∃ v, v = P0.fl.length := ⟨_, rfl⟩
          rw [← hnf] at HK0
          clear hnf
          obtain ⟨B, hBe⟩ : ∃ v, v = wr.heap.size := ⟨_, rfl⟩
          rw [← hBe] at HK0
          obtain ⟨S', hS'⟩ : ∃ s : Blks, s = Plus S wr w6 := ⟨_, rfl⟩
          rw [← hS'] at HK0
          clear hS'
          go_upto_region 19 with fail
          try rw [← HW5.out]
          try rw [← HW6.out]
          try rw [hs5]
          try rw [← hBe]
          clear HW5 HW6 hs5 hBe
          go_wp2_with fail
          go_loopw [13, 14, 15] (fun v e i wr => ∃ (k : Nat) (no m : Int) (S : Blks) (l : List Kp) (el : List Int) (A : Option Addr) (c : Nat) (A' : Option Addr) (c' : Nat), no = 2 + (k : Int) ∧ no ≤ P0.pg ∧ v = .slice A l.length c ∧ e = .slice A' el.length c' ∧ i = .int .i64 no ∧ l.length = k ∧ el.length = k ∧ Lt P0 k l el ∧ Kd M W p d P0 P0 m S mb nf D bx B l el A c A' c' wr ∧ Fine P0 m ∧ m ≤ 1000000 * 100 + 1000 * (k : Int)) (fun _ _ i _ => (P0.pg - intOf i).toNat)
          case atStart => exact ⟨0, 2, ma, S', [], [], _, 0, _, 0, rfl, HP0.out.2.2.2.1, rfl, rfl, rfl, rfl, rfl, ⟨rfl, rfl⟩, HK0.out, HP0.out.2.2.1, by have := HP0.out.2.2.2; omega⟩
          case round =>
            clear HK0
            have hpb1 := HP0.out.2.2.2.1
            have hpb2 := HP0.out.2.2.2.2.1
            obtain ⟨k, no, m, S, l, el, A, c, A', c', hno, hnp, rfl, rfl, rfl, hll, hel, hlt, hkd, hf, hmm⟩ := hrel
            have HNO := Lib.hid hno
            have hno1 : 2 ≤ no := by omega
            have hno2 : (k : Int) ≤ 298 := by have := HP0.out.2.2.2; omega
            clear hno
            by_cases h1 : no < P0.pg
            rotate_left
            · obtain rfl : no = P0.pg := by omega
              have HLT := Lib.hid (show Lt P0 k l el ∧ l.length = k ∧ P0.pg = 2 + (k : Int) from ⟨hlt, hll, HNO.out⟩)
              have HKD := Lib.hid hkd
              have HR0 := Lib.hid (show Run M W wr wr p d S 101 0 (Still P0) from ⟨P0, m, hkd.pm, hf, by have := HP0.out.2.2.2; omega, by have := HP0.out.2.2.2; omega, Still.refl _, Turn.refl _ _⟩)
              clear hlt hll hel hkd hf hmm h1
              obtain ⟨wz, hwz⟩ : ∃ v, v = wr := ⟨_, rfl⟩
              subst hwz
              go_upto_block 6 with fail
              go_cut [18] (fun s18 wx => s18 = s18 ∧ ∃ k : Nat, k ≤ 25 ∧ Run M W wz wx p d S 101 k (Still P0))
              case first =>
                go_wp2_with fail
                go_loopw [18] (fun i wr => ∃ kD : Nat, kD ≤ ys.length ∧ kD ≤ 25 ∧ i = .int .i64 kD ∧ Run M W wz wr p d S 101 kD (Still P0)) (fun i _ => 25 - (intOf i).toNat)
                case atStart => exact ⟨0, by omega, by omega, rfl, HR0.out⟩
                case round =>
                  obtain ⟨kD, hk, hkb, rfl, hrun⟩ := hrel
                  by_cases hlt : kD < ys.length ∧ kD < 25
                  · obtain ⟨hl1, hl2⟩ := hlt
                    obtain ⟨x, hx⟩ : ∃ x, ys[kD]? = some x := ⟨_, List.getElem?_eq_getElem hl1⟩
                    obtain ⟨ab, ao, K, ck, hat⟩ := Acts.at HYS.out hrun.base hx
                    have hidx := idx_acts (n := ys.length) (c := cy) hat.hA hl1
                    obtain ⟨c0, c1, c2, c3, c4, c5, c6⟩ : _ ∧ _ ∧ _ ∧ _ ∧ _ ∧ _ ∧ _ := ⟨hat.c0, hat.c1, hat.c2, hat.c3, hat.c4, hat.c5, hat.c6⟩
                    have hcall := few_any wr x K ck hat.row hat.ok.few
                    have HAT := Lib.hid hat
                    have HRUN := Lib.hid hrun
                    clear hat hrun hx
                    by_cases hfew : x.cells.length ≤ 130 ∧ ∀ q ∈ x.cells, q.size ≤ 300
                    rotate_left
                    · rw [decide_eq_false hfew] at hcall
                      clear hfew
                      go_wp2_with fail
                      (with_reducible refine hcall.mono ?_)
                      clear hcall c0 c1 c2 c3 c4 c5 c6
                      rintro e wf ⟨rfl, bf⟩
                      go_wp2_with fail
                      go_roundw
                      case rel => exact ⟨kD + 1, by omega, by omega, by go_num, HRUN.out.skip X bf (fun _ h => h)⟩
                      case measure => simp [intOf]; omega
                    rw [decide_eq_true hfew] at hcall
                    have HFEW := Lib.hid hfew
                    clear hfew
                    go_wp2_with fail
                    (with_reducible refine hcall.mono ?_)
                    clear hcall c0 c1 c2 c3 c4 c5 c6
                    rintro e wf ⟨rfl, bf⟩
                    have hat := HAT.out.below bf
                    obtain ⟨c0, c1, c2, c3, c4, c5, c6⟩ : _ ∧ _ ∧ _ ∧ _ ∧ _ ∧ _ ∧ _ := ⟨hat.c0, hat.c1, hat.c2, hat.c3, hat.c4, hat.c5, hat.c6⟩
                    by_cases hk3 : x.kind = 3
                    · have e3 : (x.kind != 3) = false := by simp [hk3]
                      clear hk3 hat
                      go_wp2_with fail
                      go_roundw
                      case rel => exact ⟨kD + 1, by omega, by omega, by go_num, HRUN.out.skip X bf (fun _ h => h)⟩
                      case measure => simp [intOf]; omega
                    have e3 : (x.kind != 3) = true := by simpa using hk3
                    have HK3 := Lib.hid hk3
                    clear hk3
                    obtain ⟨P, m, hpm, hfn, hm, hep, hR, htn⟩ := HRUN.out
                    have hcall := do_any X (hpm.below X bf) hfn x hat.ok K ck HFEW.out hat.row
                    have HS := Lib.hid (And.intro hfn (And.intro hm (And.intro hep (And.intro hR (htn.step (Turn.ofBelow bf))))))
                    clear hat hpm hfn hm hep hR htn HRUN HAT bf
                    go_wp2_with fail
                    (with_reducible refine hcall.mono ?_)
                    clear hcall c0 c1 c2 c3 c4 c5 c6 e3
                    rintro e wg ⟨rfl, hpm, htn⟩
                    have HN := Lib.hid (show Run M W wz wg p d S 101 (kD + 1) (Still P0) from run_do hpm htn HS.out.2.2.2.2 HS.out.1 HS.out.2.1 HS.out.2.2.1 (by omega) (by omega) (HS.out.2.2.2.1.trans (still_act HS.out.1.inv x HK3.out)))
                    go_wp2_with fail
                    go_roundw
                    case rel => exact ⟨kD + 1, by omega, by omega, by go_num, HN.out⟩
                    case measure => simp [intOf]; omega
                  have hex : (ys.length ≤ kD) ∨ (kD < ys.length ∧ 25 ≤ kD) := by omega
                  rcases hex with hex | ⟨hex, hex2⟩
                  · have HRUN := Lib.hid hrun
                    clear hrun HR0
                    go_wp2_with fail
                    go_meet
                    exact ⟨trivial, _, by omega, HRUN.out⟩
                  · have HRUN := Lib.hid hrun
                    clear hrun HR0
                    go_wp2_with fail
                    go_meet
                    exact ⟨trivial, _, by omega, HRUN.out⟩
              case rest =>
                obtain ⟨_, kD, hkD, hrun⟩ := hcut
                clear HR0
                obtain ⟨P1, m1, hpm, hfn, hm1, hep, hst, htn⟩ := hrun
                have HF1 := Lib.hid hfn
                have HST := Lib.hid hst
                have HPX := Lib.hid hst.x
                have HK5 := Lib.hid (And.intro (HKD.out.turn0 htn hpm) (And.intro hfn (show m1 ≤ 1000000 * 130 + 1000 * ((0 : Nat) : Int) by omega)))
                clear hpm hfn hm1 hep hst htn HKD
                go_wp2_with fail
                go_loopw [19] (fun i wr => ∃ (k : Nat) (no m : Int) (S : Blks), no = 2 + (k : Int) ∧ no ≤ P0.pg ∧ i = .int .i64 no ∧ Kd M W p d P1 P0 m S mb nf D bx B l el A c A' c' wr ∧ Fine P1 m ∧ m ≤ 1000000 * 130 + 1000 * (k : Int)) (fun i _ => (P0.pg - intOf i).toNat)
                case atStart => exact ⟨0, 2, m1, S, rfl, by have := HP0.out.2.2.2; omega, rfl, HK5.out.1, HK5.out.2.1, HK5.out.2.2⟩
                case round =>
                  have HBP := Lib.hid HP0.out.2.2.2
                  clear HK5
                  have hpb1 := HBP.out.1
                  have hpb2 := HBP.out.2.1
                  obtain ⟨k, no, m, S, hno, hnp, rfl, hkd, hf, hmm⟩ := hrel
                  have HNO := Lib.hid hno
                  have hno1 : 2 ≤ no := by omega
                  have hno2 : (k : Int) ≤ 298 := by omega
                  clear hno
                  have HKD := Lib.hid hkd
                  by_cases h1 : no < P0.pg
                  rotate_left
                  · have hn1 : ¬ (no < P0.pg) := h1
                    clear hkd hf hmm
                    go_upto_region 35 with fail
                    have hJ0 : (fun w' : World => PM M W w' p d P1 m S ∧ At w' bx 29 #[.int .i64 P0.x.ep, .int .i64 P0.x.root, .int .i64 P0.x.free, .int .i64 P0.x.pages]) (World.drew wr) := ⟨(HKD.out.pm).below X (Below.refl _ _).drew, atb HKD.out.x8 (Below.refl _ _).drew⟩
                    clear HKD
                    refine wp_region_any (by kernel_rfl) ?_
                    change wpAny _ _ _ _ _ _ _ (World.drew _)
                    refine Inv.inv_any (fun (i : Nat) (v : Value) (w : World) => match i with | 0 => v = .pointer (some ⟨p, 0, none⟩) | 1 => v = .agg #[.int .i64 P0.x.ep, .int .i64 P0.x.root, .int .i64 P0.x.free, .int .i64 P0.x.pages] | 2 => v = .agg #[.int .i64 P0.x.ep, .int .i64 P0.x.root, .int .i64 P0.x.free, .int .i64 P0.x.pages] | 3 => v = .bool true | 4 => v = .bool true | _ => True) (fun w' : World => PM M W w' p d P1 m S ∧ At w' bx 29 #[.int .i64 P0.x.ep, .int .i64 P0.x.root, .int .i64 P0.x.free, .int .i64 P0.x.pages]) _ 5 180 rfl rfl rfl (by kernel_rfl) (by kernel_rfl) hJ0 ?_ ?_ ?_ ?_
                    · intro j v w w' h hb
                      match j, h with
                      | 0, h => exact h
                      | 1, h => exact h
                      | 2, h => exact h
                      | 3, h => exact h
                      | 4, h => exact h
                      | (_ + 5), _ => exact trivial
                    · skip
                      refine Inv.from_cons _ _ _ _ rfl (fun _ a w hJ hF F K hK => ?_) ?_
                      · have hz : a.tmps.size = 180 := hF.size
                        have e5 : a.tmps[5]? = some (.pointer (some ⟨p, 0, none⟩)) := Inv2.some_slot (by rw [hz]; exact Nat.le_of_ble_eq_true rfl) (hF.slot 5 (by kernel_rfl))
                        clear F hF hz
                        have hJ1 := hJ
                        obtain ⟨jp, jx⟩ := hJ1
                        go_simp
                        exact hK (.pointer (some ⟨p, 0, none⟩)) _ hJ (Below.refl _ _) rfl
                      refine Inv.from_cons _ _ _ _ rfl (fun _ a w hJ hF F K hK => ?_) ?_
                      · have hz : a.tmps.size = 180 := hF.size
                        have e176 : a.tmps[176]? = some (.pointer (some ⟨p, 0, none⟩)) := Inv2.some_slot (by rw [hz]; exact Nat.le_of_ble_eq_true rfl) (F 0 (by kernel_rfl) 176 rfl)
                        clear F hF hz
                        have hJ1 := hJ
                        obtain ⟨jp, jx⟩ := hJ1
                        have hh := pm_super X jp
                        rw [HPX.out] at hh
                        go_simp
                        (with_reducible refine hh.mono ?_)
                        rintro e' w' ⟨rfl, hb⟩
                        go_simp
                        exact hK _ _ ⟨jp.below X hb, atb jx hb⟩ hb rfl
                      refine Inv.from_cons _ _ _ _ rfl (fun _ a w hJ hF F K hK => ?_) ?_
                      · have hz : a.tmps.size = 180 := hF.size
                        have e8 : a.tmps[8]? = some (.pointer (some ⟨bx, 0, none⟩)) := Inv2.some_slot (by rw [hz]; exact Nat.le_of_ble_eq_true rfl) (hF.slot 8 (by kernel_rfl))
                        clear F hF hz
                        have hJ1 := hJ
                        obtain ⟨jp, jx⟩ := hJ1
                        obtain ⟨d0, d1, d2, d3⟩ := four_at jx
                        go_simp
                        exact hK (.agg #[.int .i64 P0.x.ep, .int .i64 P0.x.root, .int .i64 P0.x.free, .int .i64 P0.x.pages]) _ hJ (Below.refl _ _) rfl
                      refine Inv.from_cons _ _ _ _ rfl (fun _ a w hJ hF F K hK => ?_) ?_
                      · have hz : a.tmps.size = 180 := hF.size
                        have e177 : a.tmps[177]? = some (.agg #[.int .i64 P0.x.ep, .int .i64 P0.x.root, .int .i64 P0.x.free, .int .i64 P0.x.pages]) := Inv2.some_slot (by rw [hz]; exact Nat.le_of_ble_eq_true rfl) (F 1 (by kernel_rfl) 177 rfl)
                        have e178 : a.tmps[178]? = some (.agg #[.int .i64 P0.x.ep, .int .i64 P0.x.root, .int .i64 P0.x.free, .int .i64 P0.x.pages]) := Inv2.some_slot (by rw [hz]; exact Nat.le_of_ble_eq_true rfl) (F 2 (by kernel_rfl) 178 rfl)
                        clear F hF hz
                        have hJ1 := hJ
                        obtain ⟨jp, jx⟩ := hJ1
                        go_simp
                        exact hK (.bool true) _ hJ (Below.refl _ _) rfl
                      refine Inv.from_cons _ _ _ _ rfl (fun _ a w hJ hF F K hK => ?_) ?_
                      · have hz : a.tmps.size = 180 := hF.size
                        have e176 : a.tmps[176]? = some (.pointer (some ⟨p, 0, none⟩)) := Inv2.some_slot (by rw [hz]; exact Nat.le_of_ble_eq_true rfl) (F 0 (by kernel_rfl) 176 rfl)
                        have e177 : a.tmps[177]? = some (.agg #[.int .i64 P0.x.ep, .int .i64 P0.x.root, .int .i64 P0.x.free, .int .i64 P0.x.pages]) := Inv2.some_slot (by rw [hz]; exact Nat.le_of_ble_eq_true rfl) (F 1 (by kernel_rfl) 177 rfl)
                        have e178 : a.tmps[178]? = some (.agg #[.int .i64 P0.x.ep, .int .i64 P0.x.root, .int .i64 P0.x.free, .int .i64 P0.x.pages]) := Inv2.some_slot (by rw [hz]; exact Nat.le_of_ble_eq_true rfl) (F 2 (by kernel_rfl) 178 rfl)
                        have e179 : a.tmps[179]? = some (.bool true) := Inv2.some_slot (by rw [hz]; exact Nat.le_of_ble_eq_true rfl) (F 3 (by kernel_rfl) 179 rfl)
                        clear F hF hz
                        have hJ1 := hJ
                        obtain ⟨jp, jx⟩ := hJ1
                        go_simp
                        exact hK (.bool true) _ hJ (Below.refl _ _) rfl
                      exact Inv.from_end _ _ _ _ (by decide +kernel)
                    · intro o ho; exact absurd ho (by simp)
                    · intro _ a w hJ hF F
                      obtain ⟨f, hf⟩ : ∃ f : Nat → Value, ∀ i, a.tmps.getD i undef = f i := ⟨_, fun _ => rfl⟩
                      have g5 : f 5 = (.pointer (some ⟨p, 0, none⟩)) := (hf 5).symm.trans (hF.slot 5 (by kernel_rfl))
                      have g8 : f 8 = (.pointer (some ⟨bx, 0, none⟩)) := (hf 8).symm.trans (hF.slot 8 (by kernel_rfl))
                      have g176 : f 176 = (.pointer (some ⟨p, 0, none⟩)) := (hf 176).symm.trans (F 0 176 rfl)
                      have g177 : f 177 = (.agg #[.int .i64 P0.x.ep, .int .i64 P0.x.root, .int .i64 P0.x.free, .int .i64 P0.x.pages]) := (hf 177).symm.trans (F 1 177 rfl)
                      have g178 : f 178 = (.agg #[.int .i64 P0.x.ep, .int .i64 P0.x.root, .int .i64 P0.x.free, .int .i64 P0.x.pages]) := (hf 178).symm.trans (F 2 178 rfl)
                      have g179 : f 179 = (.bool true) := (hf 179).symm.trans (F 3 179 rfl)
                      have g4 : f 4 = (.bool true) := (hf 4).symm.trans (F 4 4 rfl)
                      have ha := Frames.frame (show a.tmps.size = 180 from hF.size) hF.defers hf (l := [f 0, f 1, f 2, f 3, f 4, f 5, f 6, f 7, f 8, f 9, f 10, f 11, f 12, f 13, f 14, f 15, f 16, f 17, f 18, f 19, f 20, f 21, f 22, f 23, f 24, f 25, f 26, f 27, f 28, f 29, f 30, f 31, f 32, f 33, f 34, f 35, f 36, f 37, f 38, f 39, f 40, f 41, f 42, f 43, f 44, f 45, f 46, f 47, f 48, f 49, f 50, f 51, f 52, f 53, f 54, f 55, f 56, f 57, f 58, f 59, f 60, f 61, f 62, f 63, f 64, f 65, f 66, f 67, f 68, f 69, f 70, f 71, f 72, f 73, f 74, f 75, f 76, f 77, f 78, f 79, f 80, f 81, f 82, f 83, f 84, f 85, f 86, f 87, f 88, f 89, f 90, f 91, f 92, f 93, f 94, f 95, f 96, f 97, f 98, f 99, f 100, f 101, f 102, f 103, f 104, f 105, f 106, f 107, f 108, f 109, f 110, f 111, f 112, f 113, f 114, f 115, f 116, f 117, f 118, f 119, f 120, f 121, f 122, f 123, f 124, f 125, f 126, f 127, f 128, f 129, f 130, f 131, f 132, f 133, f 134, f 135, f 136, f 137, f 138, f 139, f 140, f 141, f 142, f 143, f 144, f 145, f 146, f 147, f 148, f 149, f 150, f 151, f 152, f 153, f 154, f 155, f 156, f 157, f 158, f 159, f 160, f 161, f 162, f 163, f 164, f 165, f 166, f 167, f 168, f 169, f 170, f 171, f 172, f 173, f 174, f 175, f 176, f 177, f 178, f 179]) rfl
                      simp only [g5, g8, g176, g177, g178, g179, g4] at ha
                      clear F hF hf g5 g8 g176 g177 g178 g179 g4
                      subst ha
                      have hJ1 := hJ
                      obtain ⟨jp, jx⟩ := hJ1
                      have HB := Lib.hid jp.base
                      clear hJ jp jx
                      go_wp2_with fail
                      go_ret
                      exact ⟨rfl, HB.out⟩
                  have hcall := pm_pages X hkd.pm
                  clear hkd
                  go_wp2_with fail
                  (with_reducible refine hcall.mono ?_)
                  clear hcall
                  rintro e wg ⟨rfl, bg⟩
                  have HKD := Lib.hid (HKD.out.below X bg)
                  clear bg
                  by_cases h2 : no < P1.pg
                  rotate_left
                  · have hn2 : ¬ (no < P1.pg) := h2
                    clear hf hmm
                    go_upto_region 35 with fail
                    have hJ0 : (fun w' : World => PM M W w' p d P1 m S ∧ At w' bx 29 #[.int .i64 P0.x.ep, .int .i64 P0.x.root, .int .i64 P0.x.free, .int .i64 P0.x.pages]) (World.drew wg) := ⟨(HKD.out.pm).below X (Below.refl _ _).drew, atb HKD.out.x8 (Below.refl _ _).drew⟩
                    clear HKD
                    refine wp_region_any (by kernel_rfl) ?_
                    change wpAny _ _ _ _ _ _ _ (World.drew _)
                    refine Inv.inv_any (fun (i : Nat) (v : Value) (w : World) => match i with | 0 => v = .pointer (some ⟨p, 0, none⟩) | 1 => v = .agg #[.int .i64 P0.x.ep, .int .i64 P0.x.root, .int .i64 P0.x.free, .int .i64 P0.x.pages] | 2 => v = .agg #[.int .i64 P0.x.ep, .int .i64 P0.x.root, .int .i64 P0.x.free, .int .i64 P0.x.pages] | 3 => v = .bool true | 4 => v = .bool true | _ => True) (fun w' : World => PM M W w' p d P1 m S ∧ At w' bx 29 #[.int .i64 P0.x.ep, .int .i64 P0.x.root, .int .i64 P0.x.free, .int .i64 P0.x.pages]) _ 5 180 rfl rfl rfl (by kernel_rfl) (by kernel_rfl) hJ0 ?_ ?_ ?_ ?_
                    · intro j v w w' h hb
                      match j, h with
                      | 0, h => exact h
                      | 1, h => exact h
                      | 2, h => exact h
                      | 3, h => exact h
                      | 4, h => exact h
                      | (_ + 5), _ => exact trivial
                    · skip
                      refine Inv.from_cons _ _ _ _ rfl (fun _ a w hJ hF F K hK => ?_) ?_
                      · have hz : a.tmps.size = 180 := hF.size
                        have e5 : a.tmps[5]? = some (.pointer (some ⟨p, 0, none⟩)) := Inv2.some_slot (by rw [hz]; exact Nat.le_of_ble_eq_true rfl) (hF.slot 5 (by kernel_rfl))
                        clear F hF hz
                        have hJ1 := hJ
                        obtain ⟨jp, jx⟩ := hJ1
                        go_simp
                        exact hK (.pointer (some ⟨p, 0, none⟩)) _ hJ (Below.refl _ _) rfl
                      refine Inv.from_cons _ _ _ _ rfl (fun _ a w hJ hF F K hK => ?_) ?_
                      · have hz : a.tmps.size = 180 := hF.size
                        have e176 : a.tmps[176]? = some (.pointer (some ⟨p, 0, none⟩)) := Inv2.some_slot (by rw [hz]; exact Nat.le_of_ble_eq_true rfl) (F 0 (by kernel_rfl) 176 rfl)
                        clear F hF hz
                        have hJ1 := hJ
                        obtain ⟨jp, jx⟩ := hJ1
                        have hh := pm_super X jp
                        rw [HPX.out] at hh
                        go_simp
                        (with_reducible refine hh.mono ?_)
                        rintro e' w' ⟨rfl, hb⟩
                        go_simp
                        exact hK _ _ ⟨jp.below X hb, atb jx hb⟩ hb rfl
                      refine Inv.from_cons _ _ _ _ rfl (fun _ a w hJ hF F K hK => ?_) ?_
                      · have hz : a.tmps.size = 180 := hF.size
                        have e8 : a.tmps[8]? = some (.pointer (some ⟨bx, 0, none⟩)) := Inv2.some_slot (by rw [hz]; exact Nat.le_of_ble_eq_true rfl) (hF.slot 8 (by kernel_rfl))
                        clear F hF hz
                        have hJ1 := hJ
                        obtain ⟨jp, jx⟩ := hJ1
                        obtain ⟨d0, d1, d2, d3⟩ := four_at jx
                        go_simp
                        exact hK (.agg #[.int .i64 P0.x.ep, .int .i64 P0.x.root, .int .i64 P0.x.free, .int .i64 P0.x.pages]) _ hJ (Below.refl _ _) rfl
                      refine Inv.from_cons _ _ _ _ rfl (fun _ a w hJ hF F K hK => ?_) ?_
                      · have hz : a.tmps.size = 180 := hF.size
                        have e177 : a.tmps[177]? = some (.agg #[.int .i64 P0.x.ep, .int .i64 P0.x.root, .int .i64 P0.x.free, .int .i64 P0.x.pages]) := Inv2.some_slot (by rw [hz]; exact Nat.le_of_ble_eq_true rfl) (F 1 (by kernel_rfl) 177 rfl)
                        have e178 : a.tmps[178]? = some (.agg #[.int .i64 P0.x.ep, .int .i64 P0.x.root, .int .i64 P0.x.free, .int .i64 P0.x.pages]) := Inv2.some_slot (by rw [hz]; exact Nat.le_of_ble_eq_true rfl) (F 2 (by kernel_rfl) 178 rfl)
                        clear F hF hz
                        have hJ1 := hJ
                        obtain ⟨jp, jx⟩ := hJ1
                        go_simp
                        exact hK (.bool true) _ hJ (Below.refl _ _) rfl
                      refine Inv.from_cons _ _ _ _ rfl (fun _ a w hJ hF F K hK => ?_) ?_
                      · have hz : a.tmps.size = 180 := hF.size
                        have e176 : a.tmps[176]? = some (.pointer (some ⟨p, 0, none⟩)) := Inv2.some_slot (by rw [hz]; exact Nat.le_of_ble_eq_true rfl) (F 0 (by kernel_rfl) 176 rfl)
                        have e177 : a.tmps[177]? = some (.agg #[.int .i64 P0.x.ep, .int .i64 P0.x.root, .int .i64 P0.x.free, .int .i64 P0.x.pages]) := Inv2.some_slot (by rw [hz]; exact Nat.le_of_ble_eq_true rfl) (F 1 (by kernel_rfl) 177 rfl)
                        have e178 : a.tmps[178]? = some (.agg #[.int .i64 P0.x.ep, .int .i64 P0.x.root, .int .i64 P0.x.free, .int .i64 P0.x.pages]) := Inv2.some_slot (by rw [hz]; exact Nat.le_of_ble_eq_true rfl) (F 2 (by kernel_rfl) 178 rfl)
                        have e179 : a.tmps[179]? = some (.bool true) := Inv2.some_slot (by rw [hz]; exact Nat.le_of_ble_eq_true rfl) (F 3 (by kernel_rfl) 179 rfl)
                        clear F hF hz
                        have hJ1 := hJ
                        obtain ⟨jp, jx⟩ := hJ1
                        go_simp
                        exact hK (.bool true) _ hJ (Below.refl _ _) rfl
                      exact Inv.from_end _ _ _ _ (by decide +kernel)
                    · intro o ho; exact absurd ho (by simp)
                    · intro _ a w hJ hF F
                      obtain ⟨f, hf⟩ : ∃ f : Nat → Value, ∀ i, a.tmps.getD i undef = f i := ⟨_, fun _ => rfl⟩
                      have g5 : f 5 = (.pointer (some ⟨p, 0, none⟩)) := (hf 5).symm.trans (hF.slot 5 (by kernel_rfl))
                      have g8 : f 8 = (.pointer (some ⟨bx, 0, none⟩)) := (hf 8).symm.trans (hF.slot 8 (by kernel_rfl))
                      have g176 : f 176 = (.pointer (some ⟨p, 0, none⟩)) := (hf 176).symm.trans (F 0 176 rfl)
                      have g177 : f 177 = (.agg #[.int .i64 P0.x.ep, .int .i64 P0.x.root, .int .i64 P0.x.free, .int .i64 P0.x.pages]) := (hf 177).symm.trans (F 1 177 rfl)
                      have g178 : f 178 = (.agg #[.int .i64 P0.x.ep, .int .i64 P0.x.root, .int .i64 P0.x.free, .int .i64 P0.x.pages]) := (hf 178).symm.trans (F 2 178 rfl)
                      have g179 : f 179 = (.bool true) := (hf 179).symm.trans (F 3 179 rfl)
                      have g4 : f 4 = (.bool true) := (hf 4).symm.trans (F 4 4 rfl)
                      have ha := Frames.frame (show a.tmps.size = 180 from hF.size) hF.defers hf (l := [f 0, f 1, f 2, f 3, f 4, f 5, f 6, f 7, f 8, f 9, f 10, f 11, f 12, f 13, f 14, f 15, f 16, f 17, f 18, f 19, f 20, f 21, f 22, f 23, f 24, f 25, f 26, f 27, f 28, f 29, f 30, f 31, f 32, f 33, f 34, f 35, f 36, f 37, f 38, f 39, f 40, f 41, f 42, f 43, f 44, f 45, f 46, f 47, f 48, f 49, f 50, f 51, f 52, f 53, f 54, f 55, f 56, f 57, f 58, f 59, f 60, f 61, f 62, f 63, f 64, f 65, f 66, f 67, f 68, f 69, f 70, f 71, f 72, f 73, f 74, f 75, f 76, f 77, f 78, f 79, f 80, f 81, f 82, f 83, f 84, f 85, f 86, f 87, f 88, f 89, f 90, f 91, f 92, f 93, f 94, f 95, f 96, f 97, f 98, f 99, f 100, f 101, f 102, f 103, f 104, f 105, f 106, f 107, f 108, f 109, f 110, f 111, f 112, f 113, f 114, f 115, f 116, f 117, f 118, f 119, f 120, f 121, f 122, f 123, f 124, f 125, f 126, f 127, f 128, f 129, f 130, f 131, f 132, f 133, f 134, f 135, f 136, f 137, f 138, f 139, f 140, f 141, f 142, f 143, f 144, f 145, f 146, f 147, f 148, f 149, f 150, f 151, f 152, f 153, f 154, f 155, f 156, f 157, f 158, f 159, f 160, f 161, f 162, f 163, f 164, f 165, f 166, f 167, f 168, f 169, f 170, f 171, f 172, f 173, f 174, f 175, f 176, f 177, f 178, f 179]) rfl
                      simp only [g5, g8, g176, g177, g178, g179, g4] at ha
                      clear F hF hf g5 g8 g176 g177 g178 g179 g4
                      subst ha
                      have hJ1 := hJ
                      obtain ⟨jp, jx⟩ := hJ1
                      have HB := Lib.hid jp.base
                      clear hJ jp jx
                      go_wp2_with fail
                      go_ret
                      exact ⟨rfl, HB.out⟩
                  have hin : In no := by unfold In; omega
                  have hcall := pm_readK X HKD.out.pm hf no hin
                  obtain ⟨pq, hpq⟩ : ∃ q, q = pgOf (rdP P1 no) := ⟨_, rfl⟩
                  obtain ⟨ez, hez⟩ : ∃ z, z = erOf (rdP P1 no) := ⟨_, rfl⟩
                  rw [← hpq, ← hez] at hcall
                  have HPE := Lib.hid (And.intro hpq hez)
                  clear hpq hez
                  go_wp2_with fail
                  (with_reducible refine hcall.mono ?_)
                  clear hcall
                  rintro e w3 ⟨N, A3, c3, hp3, t3, hN3, rfl, rq⟩
                  have hk3 := HKD.out.turn t3 hp3
                  clear HKD hp3 t3 hN3
                  obtain ⟨w4, hw4⟩ : ∃ v, v = w3.alloc (.cells #[.int .i64 pq.kind, .int .i64 pq.no, .int .i64 pq.epoch, .int .i64 pq.link, .slice A3 pq.cells.length c3] 69) := ⟨_, rfl⟩
                  have b4 : Below w3.heap.size w3 w4 := by rw [hw4]; exact al' _ _
                  have a4 : At w4 w3.heap.size 69 #[.int .i64 pq.kind, .int .i64 pq.no, .int .i64 pq.epoch, .int .i64 pq.link, .slice A3 pq.cells.length c3] := by rw [hw4]; exact heap_alloc_new w3 _
                  have hk4 := hk3.below X b4
                  have r4 := rq.row.belowSize b4
                  obtain ⟨bq, hbq⟩ : ∃ v, v = w3.heap.size := ⟨_, rfl⟩
                  rw [← hbq] at a4
                  have HW4 := Lib.hid hw4
                  clear hw4 hk3 rq b4
                  obtain ⟨S', hS'⟩ : ∃ s : Blks, s = (fun b => S b ∨ N b) := ⟨_, rfl⟩
                  rw [← hS'] at hk4
                  clear hS'
                  have hff := fine_read hf (by omega)
                  have HFI := Lib.hid (And.intro hff (show m + 1000 ≤ 1000000 * 130 + 1000 * (((k + 1 : Nat) : Int)) by omega))
                  clear hff hf hmm
                  obtain ⟨m', hm'⟩ : ∃ z, z = m + 1000 := ⟨_, rfl⟩
                  rw [← hm'] at hk4 HFI
                  clear hm'
                  go_upto_region 33 with fail
                  try rw [← HW4.out]
                  try rw [← hbq]
                  clear HW4 hbq
                  have hJ0 : (fun w' : World => Kd M W p d P1 P0 m' S' mb nf D bx B l el A c A' c' w' ∧ At w' bq 69 #[.int .i64 pq.kind, .int .i64 pq.no, .int .i64 pq.epoch, .int .i64 pq.link, .slice A3 pq.cells.length c3] ∧ Row w' w'.heap.size A3 (strs pq.cells)) (World.drew w4) := ⟨hk4.below X (Below.refl _ _).drew, atb a4 (Below.refl _ _).drew, r4.belowSize (Below.refl _ _).drew⟩
                  clear hk4 a4 r4
                  have HKEY := Lib.hid (keyOf_int_mk Tryz.underlying3 (wf_small (x := no) (by omega) (by have := HP0.out.2.2.2; omega)))
                  by_cases hin2 : no ∈ ks P0.fl
                  · obtain ⟨cn, hcn⟩ : ∃ c, (ks P0.fl).count no = c := ⟨_, rfl⟩
                    have HCN := Lib.hid hcn
                    have HC0 := Lib.hid (show ((cn : Int) == 0) = false from by have := List.count_pos_iff.2 hin2; rw [hcn] at this; simp; omega)
                    clear hcn hin2 hin
                    refine wp_region_any (by kernel_rfl) ?_
                    change wpAny _ _ _ _ _ _ _ (World.drew _)
                    refine Inv.inv_any (fun (i : Nat) (v : Value) (w : World) => match i with | 0 => v = .map (some mb) | 1 => v = .int .i64 no | 2 => v = .int .i64 (cn : Int) | 3 => v = .bool false | 4 => v = .bool false | 5 => v = undef | 6 => v = undef | 7 => v = undef | 8 => v = undef | 9 => v = undef | 10 => v = undef | 11 => v = undef | 12 => v = undef | 13 => v = undef | 14 => v = undef | 15 => v = undef | 16 => v = undef | 17 => v = undef | 18 => v = undef | 19 => v = undef | 20 => v = undef | 21 => v = undef | 22 => v = .bool false | _ => True) (fun w' : World => Kd M W p d P1 P0 m' S' mb nf D bx B l el A c A' c' w' ∧ At w' bq 69 #[.int .i64 pq.kind, .int .i64 pq.no, .int .i64 pq.epoch, .int .i64 pq.link, .slice A3 pq.cells.length c3] ∧ Row w' w'.heap.size A3 (strs pq.cells)) _ 23 180 rfl rfl rfl (by kernel_rfl) (by kernel_rfl) hJ0 ?_ ?_ ?_ ?_
                    · intro j v w w' h hb
                      match j, h with
                      | 0, h => exact h
                      | 1, h => exact h
                      | 2, h => exact h
                      | 3, h => exact h
                      | 4, h => exact h
                      | 5, h => exact h
                      | 6, h => exact h
                      | 7, h => exact h
                      | 8, h => exact h
                      | 9, h => exact h
                      | 10, h => exact h
                      | 11, h => exact h
                      | 12, h => exact h
                      | 13, h => exact h
                      | 14, h => exact h
                      | 15, h => exact h
                      | 16, h => exact h
                      | 17, h => exact h
                      | 18, h => exact h
                      | 19, h => exact h
                      | 20, h => exact h
                      | 21, h => exact h
                      | 22, h => exact h
                      | (_ + 23), _ => exact trivial
                    · skip
                      refine Inv.from_cons _ _ _ _ rfl (fun _ a w hJ hF F K hK => ?_) ?_
                      · have hz : a.tmps.size = 180 := hF.size
                        have e10 : a.tmps[10]? = some (.map (some mb)) := Inv2.some_slot (by rw [hz]; exact Nat.le_of_ble_eq_true rfl) (hF.slot 10 (by kernel_rfl))
                        clear F hF hz
                        have hJ1 := hJ
                        obtain ⟨jk, jq, jr⟩ := hJ1
                        go_simp
                        exact hK (.map (some mb)) _ hJ (Below.refl _ _) rfl
                      refine Inv.from_cons _ _ _ _ rfl (fun _ a w hJ hF F K hK => ?_) ?_
                      · have hz : a.tmps.size = 180 := hF.size
                        have e19 : a.tmps[19]? = some (.int .i64 no) := Inv2.some_slot (by rw [hz]; exact Nat.le_of_ble_eq_true rfl) (hF.slot 19 (by kernel_rfl))
                        clear F hF hz
                        have hJ1 := hJ
                        obtain ⟨jk, jq, jr⟩ := hJ1
                        go_simp
                        exact hK (.int .i64 no) _ hJ (Below.refl _ _) rfl
                      refine Inv.from_cons _ _ _ _ rfl (fun _ a w hJ hF F K hK => ?_) ?_
                      · have hz : a.tmps.size = 180 := hF.size
                        have e153 : a.tmps[153]? = some (.map (some mb)) := Inv2.some_slot (by rw [hz]; exact Nat.le_of_ble_eq_true rfl) (F 0 (by kernel_rfl) 153 rfl)
                        have e154 : a.tmps[154]? = some (.int .i64 no) := Inv2.some_slot (by rw [hz]; exact Nat.le_of_ble_eq_true rfl) (F 1 (by kernel_rfl) 154 rfl)
                        clear F hF hz
                        have hJ1 := hJ
                        obtain ⟨jk, jq, jr⟩ := hJ1
                        obtain ⟨cc, hlk, hat, _⟩ := World.ownsMap.lookup_int jk.om lawI Tryz.underlying64 Tryz.underlying3 (zeroI _) HKEY.out
                        obtain rfl := FreeCover.look HCNT.out hat
                        rw [HCN.out] at hlk
                        clear hat
                        go_simp
                        exact hK (.int .i64 (cn : Int)) _ hJ (Below.refl _ _) rfl
                      refine Inv.from_cons _ _ _ _ rfl (fun _ a w hJ hF F K hK => ?_) ?_
                      · have hz : a.tmps.size = 180 := hF.size
                        have e155 : a.tmps[155]? = some (.int .i64 (cn : Int)) := Inv2.some_slot (by rw [hz]; exact Nat.le_of_ble_eq_true rfl) (F 2 (by kernel_rfl) 155 rfl)
                        clear F hF hz
                        have hJ1 := hJ
                        obtain ⟨jk, jq, jr⟩ := hJ1
                        have e0 := HC0.out
                        go_simp
                        exact hK (.bool false) _ hJ (Below.refl _ _) rfl
                      refine Inv.from_cons _ _ _ _ rfl (fun _ a w hJ hF F K hK => ?_) ?_
                      · have hz : a.tmps.size = 180 := hF.size
                        have e156 : a.tmps[156]? = some (.bool false) := Inv2.some_slot (by rw [hz]; exact Nat.le_of_ble_eq_true rfl) (F 3 (by kernel_rfl) 156 rfl)
                        clear F hF hz
                        have hJ1 := hJ
                        obtain ⟨jk, jq, jr⟩ := hJ1
                        go_simp
                        exact hK (.bool false) _ hJ (Below.refl _ _) rfl
                      refine Inv.from_cons _ _ _ _ rfl (fun _ a w hJ hF F K hK => ?_) ?_
                      · have hz : a.tmps.size = 180 := hF.size
                        have e21 : a.tmps[21]? = some (.int .i64 ez) := Inv2.some_slot (by rw [hz]; exact Nat.le_of_ble_eq_true rfl) (hF.slot 21 (by kernel_rfl))
                        have e157 : a.tmps[157]? = some (.bool false) := Inv2.some_slot (by rw [hz]; exact Nat.le_of_ble_eq_true rfl) (F 4 (by kernel_rfl) 157 rfl)
                        clear F hF hz
                        have hJ1 := hJ
                        obtain ⟨jk, jq, jr⟩ := hJ1
                        go_simp
                        exact hK (undef) _ hJ (Below.refl _ _) rfl
                      refine Inv.from_cons _ _ _ _ rfl (fun _ a w hJ hF F K hK => ?_) ?_
                      · have hz : a.tmps.size = 180 := hF.size
                        have e14 : a.tmps[14]? = some (.slice A' el.length c') := Inv2.some_slot (by rw [hz]; exact Nat.le_of_ble_eq_true rfl) (hF.slot 14 (by kernel_rfl))
                        have e157 : a.tmps[157]? = some (.bool false) := Inv2.some_slot (by rw [hz]; exact Nat.le_of_ble_eq_true rfl) (F 4 (by kernel_rfl) 157 rfl)
                        clear F hF hz
                        have hJ1 := hJ
                        obtain ⟨jk, jq, jr⟩ := hJ1
                        go_simp
                        exact hK (undef) _ hJ (Below.refl _ _) rfl
                      refine Inv.from_cons _ _ _ _ rfl (fun _ a w hJ hF F K hK => ?_) ?_
                      · have hz : a.tmps.size = 180 := hF.size
                        have e19 : a.tmps[19]? = some (.int .i64 no) := Inv2.some_slot (by rw [hz]; exact Nat.le_of_ble_eq_true rfl) (hF.slot 19 (by kernel_rfl))
                        have e157 : a.tmps[157]? = some (.bool false) := Inv2.some_slot (by rw [hz]; exact Nat.le_of_ble_eq_true rfl) (F 4 (by kernel_rfl) 157 rfl)
                        clear F hF hz
                        have hJ1 := hJ
                        obtain ⟨jk, jq, jr⟩ := hJ1
                        go_simp
                        exact hK (undef) _ hJ (Below.refl _ _) rfl
                      refine Inv.from_cons _ _ _ _ rfl (fun _ a w hJ hF F K hK => ?_) ?_
                      · have hz : a.tmps.size = 180 := hF.size
                        have e157 : a.tmps[157]? = some (.bool false) := Inv2.some_slot (by rw [hz]; exact Nat.le_of_ble_eq_true rfl) (F 4 (by kernel_rfl) 157 rfl)
                        have e160 : a.tmps[160]? = some (undef) := Inv2.some_slot (by rw [hz]; exact Nat.le_of_ble_eq_true rfl) (F 7 (by kernel_rfl) 160 rfl)
                        clear F hF hz
                        have hJ1 := hJ
                        obtain ⟨jk, jq, jr⟩ := hJ1
                        go_simp
                        exact hK (undef) _ hJ (Below.refl _ _) rfl
                      refine Inv.from_cons _ _ _ _ rfl (fun _ a w hJ hF F K hK => ?_) ?_
                      · have hz : a.tmps.size = 180 := hF.size
                        have e157 : a.tmps[157]? = some (.bool false) := Inv2.some_slot (by rw [hz]; exact Nat.le_of_ble_eq_true rfl) (F 4 (by kernel_rfl) 157 rfl)
                        have e159 : a.tmps[159]? = some (undef) := Inv2.some_slot (by rw [hz]; exact Nat.le_of_ble_eq_true rfl) (F 6 (by kernel_rfl) 159 rfl)
                        have e161 : a.tmps[161]? = some (undef) := Inv2.some_slot (by rw [hz]; exact Nat.le_of_ble_eq_true rfl) (F 8 (by kernel_rfl) 161 rfl)
                        clear F hF hz
                        have hJ1 := hJ
                        obtain ⟨jk, jq, jr⟩ := hJ1
                        go_simp
                        exact hK (undef) _ hJ (Below.refl _ _) rfl
                      refine Inv.from_cons _ _ _ _ rfl (fun _ a w hJ hF F K hK => ?_) ?_
                      · have hz : a.tmps.size = 180 := hF.size
                        have e157 : a.tmps[157]? = some (.bool false) := Inv2.some_slot (by rw [hz]; exact Nat.le_of_ble_eq_true rfl) (F 4 (by kernel_rfl) 157 rfl)
                        have e162 : a.tmps[162]? = some (undef) := Inv2.some_slot (by rw [hz]; exact Nat.le_of_ble_eq_true rfl) (F 9 (by kernel_rfl) 162 rfl)
                        clear F hF hz
                        have hJ1 := hJ
                        obtain ⟨jk, jq, jr⟩ := hJ1
                        go_simp
                        exact hK (undef) _ hJ (Below.refl _ _) rfl
                      refine Inv.from_cons _ _ _ _ rfl (fun _ a w hJ hF F K hK => ?_) ?_
                      · have hz : a.tmps.size = 180 := hF.size
                        have e157 : a.tmps[157]? = some (.bool false) := Inv2.some_slot (by rw [hz]; exact Nat.le_of_ble_eq_true rfl) (F 4 (by kernel_rfl) 157 rfl)
                        have e158 : a.tmps[158]? = some (undef) := Inv2.some_slot (by rw [hz]; exact Nat.le_of_ble_eq_true rfl) (F 5 (by kernel_rfl) 158 rfl)
                        have e163 : a.tmps[163]? = some (undef) := Inv2.some_slot (by rw [hz]; exact Nat.le_of_ble_eq_true rfl) (F 10 (by kernel_rfl) 163 rfl)
                        clear F hF hz
                        have hJ1 := hJ
                        obtain ⟨jk, jq, jr⟩ := hJ1
                        go_simp
                        exact hK (undef) _ hJ (Below.refl _ _) rfl
                      refine Inv.from_cons _ _ _ _ rfl (fun _ a w hJ hF F K hK => ?_) ?_
                      · have hz : a.tmps.size = 180 := hF.size
                        have e157 : a.tmps[157]? = some (.bool false) := Inv2.some_slot (by rw [hz]; exact Nat.le_of_ble_eq_true rfl) (F 4 (by kernel_rfl) 157 rfl)
                        have e164 : a.tmps[164]? = some (undef) := Inv2.some_slot (by rw [hz]; exact Nat.le_of_ble_eq_true rfl) (F 11 (by kernel_rfl) 164 rfl)
                        clear F hF hz
                        have hJ1 := hJ
                        obtain ⟨jk, jq, jr⟩ := hJ1
                        go_simp
                        exact hK (undef) _ hJ (Below.refl _ _) rfl
                      refine Inv.from_cons _ _ _ _ rfl (fun _ a w hJ hF F K hK => ?_) ?_
                      · have hz : a.tmps.size = 180 := hF.size
                        have e20 : a.tmps[20]? = some (.pointer (some ⟨bq, 0, none⟩)) := Inv2.some_slot (by rw [hz]; exact Nat.le_of_ble_eq_true rfl) (hF.slot 20 (by kernel_rfl))
                        have e165 : a.tmps[165]? = some (undef) := Inv2.some_slot (by rw [hz]; exact Nat.le_of_ble_eq_true rfl) (F 12 (by kernel_rfl) 165 rfl)
                        clear F hF hz
                        have hJ1 := hJ
                        obtain ⟨jk, jq, jr⟩ := hJ1
                        go_simp
                        exact hK (undef) _ hJ (Below.refl _ _) rfl
                      refine Inv.from_cons _ _ _ _ rfl (fun _ a w hJ hF F K hK => ?_) ?_
                      · have hz : a.tmps.size = 180 := hF.size
                        have e13 : a.tmps[13]? = some (.slice A l.length c) := Inv2.some_slot (by rw [hz]; exact Nat.le_of_ble_eq_true rfl) (hF.slot 13 (by kernel_rfl))
                        have e165 : a.tmps[165]? = some (undef) := Inv2.some_slot (by rw [hz]; exact Nat.le_of_ble_eq_true rfl) (F 12 (by kernel_rfl) 165 rfl)
                        clear F hF hz
                        have hJ1 := hJ
                        obtain ⟨jk, jq, jr⟩ := hJ1
                        go_simp
                        exact hK (undef) _ hJ (Below.refl _ _) rfl
                      refine Inv.from_cons _ _ _ _ rfl (fun _ a w hJ hF F K hK => ?_) ?_
                      · have hz : a.tmps.size = 180 := hF.size
                        have e19 : a.tmps[19]? = some (.int .i64 no) := Inv2.some_slot (by rw [hz]; exact Nat.le_of_ble_eq_true rfl) (hF.slot 19 (by kernel_rfl))
                        have e165 : a.tmps[165]? = some (undef) := Inv2.some_slot (by rw [hz]; exact Nat.le_of_ble_eq_true rfl) (F 12 (by kernel_rfl) 165 rfl)
                        clear F hF hz
                        have hJ1 := hJ
                        obtain ⟨jk, jq, jr⟩ := hJ1
                        go_simp
                        exact hK (undef) _ hJ (Below.refl _ _) rfl
                      refine Inv.from_cons _ _ _ _ rfl (fun _ a w hJ hF F K hK => ?_) ?_
                      · have hz : a.tmps.size = 180 := hF.size
                        have e165 : a.tmps[165]? = some (undef) := Inv2.some_slot (by rw [hz]; exact Nat.le_of_ble_eq_true rfl) (F 12 (by kernel_rfl) 165 rfl)
                        have e168 : a.tmps[168]? = some (undef) := Inv2.some_slot (by rw [hz]; exact Nat.le_of_ble_eq_true rfl) (F 15 (by kernel_rfl) 168 rfl)
                        clear F hF hz
                        have hJ1 := hJ
                        obtain ⟨jk, jq, jr⟩ := hJ1
                        go_simp
                        exact hK (undef) _ hJ (Below.refl _ _) rfl
                      refine Inv.from_cons _ _ _ _ rfl (fun _ a w hJ hF F K hK => ?_) ?_
                      · have hz : a.tmps.size = 180 := hF.size
                        have e165 : a.tmps[165]? = some (undef) := Inv2.some_slot (by rw [hz]; exact Nat.le_of_ble_eq_true rfl) (F 12 (by kernel_rfl) 165 rfl)
                        have e167 : a.tmps[167]? = some (undef) := Inv2.some_slot (by rw [hz]; exact Nat.le_of_ble_eq_true rfl) (F 14 (by kernel_rfl) 167 rfl)
                        have e169 : a.tmps[169]? = some (undef) := Inv2.some_slot (by rw [hz]; exact Nat.le_of_ble_eq_true rfl) (F 16 (by kernel_rfl) 169 rfl)
                        clear F hF hz
                        have hJ1 := hJ
                        obtain ⟨jk, jq, jr⟩ := hJ1
                        go_simp
                        exact hK (undef) _ hJ (Below.refl _ _) rfl
                      refine Inv.from_cons _ _ _ _ rfl (fun _ a w hJ hF F K hK => ?_) ?_
                      · have hz : a.tmps.size = 180 := hF.size
                        have e165 : a.tmps[165]? = some (undef) := Inv2.some_slot (by rw [hz]; exact Nat.le_of_ble_eq_true rfl) (F 12 (by kernel_rfl) 165 rfl)
                        have e170 : a.tmps[170]? = some (undef) := Inv2.some_slot (by rw [hz]; exact Nat.le_of_ble_eq_true rfl) (F 17 (by kernel_rfl) 170 rfl)
                        clear F hF hz
                        have hJ1 := hJ
                        obtain ⟨jk, jq, jr⟩ := hJ1
                        go_simp
                        exact hK (undef) _ hJ (Below.refl _ _) rfl
                      refine Inv.from_cons _ _ _ _ rfl (fun _ a w hJ hF F K hK => ?_) ?_
                      · have hz : a.tmps.size = 180 := hF.size
                        have e165 : a.tmps[165]? = some (undef) := Inv2.some_slot (by rw [hz]; exact Nat.le_of_ble_eq_true rfl) (F 12 (by kernel_rfl) 165 rfl)
                        have e166 : a.tmps[166]? = some (undef) := Inv2.some_slot (by rw [hz]; exact Nat.le_of_ble_eq_true rfl) (F 13 (by kernel_rfl) 166 rfl)
                        have e171 : a.tmps[171]? = some (undef) := Inv2.some_slot (by rw [hz]; exact Nat.le_of_ble_eq_true rfl) (F 18 (by kernel_rfl) 171 rfl)
                        clear F hF hz
                        have hJ1 := hJ
                        obtain ⟨jk, jq, jr⟩ := hJ1
                        go_simp
                        exact hK (undef) _ hJ (Below.refl _ _) rfl
                      refine Inv.from_cons _ _ _ _ rfl (fun _ a w hJ hF F K hK => ?_) ?_
                      · have hz : a.tmps.size = 180 := hF.size
                        have e165 : a.tmps[165]? = some (undef) := Inv2.some_slot (by rw [hz]; exact Nat.le_of_ble_eq_true rfl) (F 12 (by kernel_rfl) 165 rfl)
                        have e172 : a.tmps[172]? = some (undef) := Inv2.some_slot (by rw [hz]; exact Nat.le_of_ble_eq_true rfl) (F 19 (by kernel_rfl) 172 rfl)
                        clear F hF hz
                        have hJ1 := hJ
                        obtain ⟨jk, jq, jr⟩ := hJ1
                        go_simp
                        exact hK (undef) _ hJ (Below.refl _ _) rfl
                      refine Inv.from_cons _ _ _ _ rfl (fun _ a w hJ hF F K hK => ?_) ?_
                      · have hz : a.tmps.size = 180 := hF.size
                        have e157 : a.tmps[157]? = some (.bool false) := Inv2.some_slot (by rw [hz]; exact Nat.le_of_ble_eq_true rfl) (F 4 (by kernel_rfl) 157 rfl)
                        have e165 : a.tmps[165]? = some (undef) := Inv2.some_slot (by rw [hz]; exact Nat.le_of_ble_eq_true rfl) (F 12 (by kernel_rfl) 165 rfl)
                        have e173 : a.tmps[173]? = some (undef) := Inv2.some_slot (by rw [hz]; exact Nat.le_of_ble_eq_true rfl) (F 20 (by kernel_rfl) 173 rfl)
                        clear F hF hz
                        have hJ1 := hJ
                        obtain ⟨jk, jq, jr⟩ := hJ1
                        go_simp
                        exact hK (undef) _ hJ (Below.refl _ _) rfl
                      refine Inv.from_cons _ _ _ _ rfl (fun _ a w hJ hF F K hK => ?_) ?_
                      · have hz : a.tmps.size = 180 := hF.size
                        have e157 : a.tmps[157]? = some (.bool false) := Inv2.some_slot (by rw [hz]; exact Nat.le_of_ble_eq_true rfl) (F 4 (by kernel_rfl) 157 rfl)
                        have e174 : a.tmps[174]? = some (undef) := Inv2.some_slot (by rw [hz]; exact Nat.le_of_ble_eq_true rfl) (F 21 (by kernel_rfl) 174 rfl)
                        clear F hF hz
                        have hJ1 := hJ
                        obtain ⟨jk, jq, jr⟩ := hJ1
                        go_simp
                        exact hK (.bool false) _ hJ (Below.refl _ _) rfl
                      exact Inv.from_end _ _ _ _ (by decide +kernel)
                    · intro o ho; exact absurd ho (by simp)
                    · intro _ a w hJ hF F
                      obtain ⟨f, hf⟩ : ∃ f : Nat → Value, ∀ i, a.tmps.getD i undef = f i := ⟨_, fun _ => rfl⟩
                      have g0 : f 0 = (.slice XA xs.length cx) := (hf 0).symm.trans (hF.slot 0 (by kernel_rfl))
                      have g1 : f 1 = (.slice XB ys.length cy) := (hf 1).symm.trans (hF.slot 1 (by kernel_rfl))
                      have g2 : f 2 = (undef) := (hf 2).symm.trans (hF.slot 2 (by kernel_rfl))
                      have g3 : f 3 = (undef) := (hf 3).symm.trans (hF.slot 3 (by kernel_rfl))
                      have g4 : f 4 = (u4) := (hf 4).symm.trans (hF.slot 4 (by kernel_rfl))
                      have g5 : f 5 = (.pointer (some ⟨p, 0, none⟩)) := (hf 5).symm.trans (hF.slot 5 (by kernel_rfl))
                      have g6 : f 6 = (.pointer (some ⟨d, 0, none⟩)) := (hf 6).symm.trans (hF.slot 6 (by kernel_rfl))
                      have g7 : f 7 = (u7) := (hf 7).symm.trans (hF.slot 7 (by kernel_rfl))
                      have g8 : f 8 = (.pointer (some ⟨bx, 0, none⟩)) := (hf 8).symm.trans (hF.slot 8 (by kernel_rfl))
                      have g9 : f 9 = (.int .i64 P0.pg) := (hf 9).symm.trans (hF.slot 9 (by kernel_rfl))
                      have g10 : f 10 = (.map (some mb)) := (hf 10).symm.trans (hF.slot 10 (by kernel_rfl))
                      have g11 : f 11 = (.slice A1 P0.fl.length k1) := (hf 11).symm.trans (hF.slot 11 (by kernel_rfl))
                      have g12 : f 12 = (.int .i64 (P0.fl.length : Int)) := (hf 12).symm.trans (hF.slot 12 (by kernel_rfl))
                      have g13 : f 13 = (.slice A l.length c) := (hf 13).symm.trans (hF.slot 13 (by kernel_rfl))
                      have g14 : f 14 = (.slice A' el.length c') := (hf 14).symm.trans (hF.slot 14 (by kernel_rfl))
                      have g15 : f 15 = (.int .i64 P0.pg) := (hf 15).symm.trans (hF.slot 15 (by kernel_rfl))
                      have g16 : f 16 = (u16) := (hf 16).symm.trans (hF.slot 16 (by kernel_rfl))
                      have g17 : f 17 = (u17) := (hf 17).symm.trans (hF.slot 17 (by kernel_rfl))
                      have g18 : f 18 = (u18) := (hf 18).symm.trans (hF.slot 18 (by kernel_rfl))
                      have g19 : f 19 = (.int .i64 no) := (hf 19).symm.trans (hF.slot 19 (by kernel_rfl))
                      have g20 : f 20 = (.pointer (some ⟨bq, 0, none⟩)) := (hf 20).symm.trans (hF.slot 20 (by kernel_rfl))
                      have g21 : f 21 = (.int .i64 ez) := (hf 21).symm.trans (hF.slot 21 (by kernel_rfl))
                      have g22 : f 22 = (u22) := (hf 22).symm.trans (hF.slot 22 (by kernel_rfl))
                      have g23 : f 23 = (u23) := (hf 23).symm.trans (hF.slot 23 (by kernel_rfl))
                      have g24 : f 24 = (u24) := (hf 24).symm.trans (hF.slot 24 (by kernel_rfl))
                      have g25 : f 25 = (u25) := (hf 25).symm.trans (hF.slot 25 (by kernel_rfl))
                      have g26 : f 26 = (u26) := (hf 26).symm.trans (hF.slot 26 (by kernel_rfl))
                      have g27 : f 27 = (u27) := (hf 27).symm.trans (hF.slot 27 (by kernel_rfl))
                      have g28 : f 28 = (u28) := (hf 28).symm.trans (hF.slot 28 (by kernel_rfl))
                      have g29 : f 29 = (u29) := (hf 29).symm.trans (hF.slot 29 (by kernel_rfl))
                      have g30 : f 30 = (u30) := (hf 30).symm.trans (hF.slot 30 (by kernel_rfl))
                      have g31 : f 31 = (u31) := (hf 31).symm.trans (hF.slot 31 (by kernel_rfl))
                      have g32 : f 32 = (u32) := (hf 32).symm.trans (hF.slot 32 (by kernel_rfl))
                      have g33 : f 33 = (u33) := (hf 33).symm.trans (hF.slot 33 (by kernel_rfl))
                      have g34 : f 34 = (u34) := (hf 34).symm.trans (hF.slot 34 (by kernel_rfl))
                      have g35 : f 35 = (u35) := (hf 35).symm.trans (hF.slot 35 (by kernel_rfl))
                      have g36 : f 36 = (u36) := (hf 36).symm.trans (hF.slot 36 (by kernel_rfl))
                      have g37 : f 37 = (u37) := (hf 37).symm.trans (hF.slot 37 (by kernel_rfl))
                      have g38 : f 38 = (u38) := (hf 38).symm.trans (hF.slot 38 (by kernel_rfl))
                      have g39 : f 39 = (u39) := (hf 39).symm.trans (hF.slot 39 (by kernel_rfl))
                      have g40 : f 40 = (u40) := (hf 40).symm.trans (hF.slot 40 (by kernel_rfl))
                      have g41 : f 41 = (u41) := (hf 41).symm.trans (hF.slot 41 (by kernel_rfl))
                      have g42 : f 42 = (u42) := (hf 42).symm.trans (hF.slot 42 (by kernel_rfl))
                      have g43 : f 43 = (u43) := (hf 43).symm.trans (hF.slot 43 (by kernel_rfl))
                      have g44 : f 44 = (u44) := (hf 44).symm.trans (hF.slot 44 (by kernel_rfl))
                      have g45 : f 45 = (u45) := (hf 45).symm.trans (hF.slot 45 (by kernel_rfl))
                      have g46 : f 46 = (u46) := (hf 46).symm.trans (hF.slot 46 (by kernel_rfl))
                      have g47 : f 47 = (u47) := (hf 47).symm.trans (hF.slot 47 (by kernel_rfl))
                      have g48 : f 48 = (u48) := (hf 48).symm.trans (hF.slot 48 (by kernel_rfl))
                      have g49 : f 49 = (u49) := (hf 49).symm.trans (hF.slot 49 (by kernel_rfl))
                      have g50 : f 50 = (u50) := (hf 50).symm.trans (hF.slot 50 (by kernel_rfl))
                      have g51 : f 51 = (u51) := (hf 51).symm.trans (hF.slot 51 (by kernel_rfl))
                      have g52 : f 52 = (u52) := (hf 52).symm.trans (hF.slot 52 (by kernel_rfl))
                      have g53 : f 53 = (u53) := (hf 53).symm.trans (hF.slot 53 (by kernel_rfl))
                      have g54 : f 54 = (u54) := (hf 54).symm.trans (hF.slot 54 (by kernel_rfl))
                      have g55 : f 55 = (u55) := (hf 55).symm.trans (hF.slot 55 (by kernel_rfl))
                      have g56 : f 56 = (u56) := (hf 56).symm.trans (hF.slot 56 (by kernel_rfl))
                      have g57 : f 57 = (u57) := (hf 57).symm.trans (hF.slot 57 (by kernel_rfl))
                      have g58 : f 58 = (u58) := (hf 58).symm.trans (hF.slot 58 (by kernel_rfl))
                      have g59 : f 59 = (u59) := (hf 59).symm.trans (hF.slot 59 (by kernel_rfl))
                      have g60 : f 60 = (u60) := (hf 60).symm.trans (hF.slot 60 (by kernel_rfl))
                      have g61 : f 61 = (u61) := (hf 61).symm.trans (hF.slot 61 (by kernel_rfl))
                      have g62 : f 62 = (u62) := (hf 62).symm.trans (hF.slot 62 (by kernel_rfl))
                      have g63 : f 63 = (u63) := (hf 63).symm.trans (hF.slot 63 (by kernel_rfl))
                      have g64 : f 64 = (u64) := (hf 64).symm.trans (hF.slot 64 (by kernel_rfl))
                      have g65 : f 65 = (.map (some mb)) := (hf 65).symm.trans (hF.slot 65 (by kernel_rfl))
                      have g66 : f 66 = (.pointer (some ⟨p, 0, none⟩)) := (hf 66).symm.trans (hF.slot 66 (by kernel_rfl))
                      have g67 : f 67 = (.slice A1 P0.fl.length k1) := (hf 67).symm.trans (hF.slot 67 (by kernel_rfl))
                      have g68 : f 68 = (.int .i64 (P0.fl.length : Int)) := (hf 68).symm.trans (hF.slot 68 (by kernel_rfl))
                      have g69 : f 69 = (.slice A1 P0.fl.length k1) := (hf 69).symm.trans (hF.slot 69 (by kernel_rfl))
                      have g70 : f 70 = (.int .i64 (P0.fl.length : Int)) := (hf 70).symm.trans (hF.slot 70 (by kernel_rfl))
                      have g71 : f 71 = (.bool false) := (hf 71).symm.trans (hF.slot 71 (by kernel_rfl))
                      have g72 : f 72 = (u72) := (hf 72).symm.trans (hF.slot 72 (by kernel_rfl))
                      have g73 : f 73 = (u73) := (hf 73).symm.trans (hF.slot 73 (by kernel_rfl))
                      have g74 : f 74 = (u74) := (hf 74).symm.trans (hF.slot 74 (by kernel_rfl))
                      have g75 : f 75 = (u75) := (hf 75).symm.trans (hF.slot 75 (by kernel_rfl))
                      have g76 : f 76 = (u76) := (hf 76).symm.trans (hF.slot 76 (by kernel_rfl))
                      have g77 : f 77 = (u77) := (hf 77).symm.trans (hF.slot 77 (by kernel_rfl))
                      have g78 : f 78 = (u78) := (hf 78).symm.trans (hF.slot 78 (by kernel_rfl))
                      have g79 : f 79 = (u79) := (hf 79).symm.trans (hF.slot 79 (by kernel_rfl))
                      have g80 : f 80 = (.slice (some ⟨B, 0, none⟩) 0 0) := (hf 80).symm.trans (hF.slot 80 (by kernel_rfl))
                      have g81 : f 81 = (.slice (some ⟨B + 1, 0, none⟩) 0 0) := (hf 81).symm.trans (hF.slot 81 (by kernel_rfl))
                      have g82 : f 82 = (.int .i64 P0.pg) := (hf 82).symm.trans (hF.slot 82 (by kernel_rfl))
                      have g83 : f 83 = (.int .i64 P0.pg) := (hf 83).symm.trans (hF.slot 83 (by kernel_rfl))
                      have g84 : f 84 = (.bool false) := (hf 84).symm.trans (hF.slot 84 (by kernel_rfl))
                      have g85 : f 85 = (u85) := (hf 85).symm.trans (hF.slot 85 (by kernel_rfl))
                      have g86 : f 86 = (u86) := (hf 86).symm.trans (hF.slot 86 (by kernel_rfl))
                      have g87 : f 87 = (u87) := (hf 87).symm.trans (hF.slot 87 (by kernel_rfl))
                      have g88 : f 88 = (u88) := (hf 88).symm.trans (hF.slot 88 (by kernel_rfl))
                      have g89 : f 89 = (u89) := (hf 89).symm.trans (hF.slot 89 (by kernel_rfl))
                      have g90 : f 90 = (u90) := (hf 90).symm.trans (hF.slot 90 (by kernel_rfl))
                      have g91 : f 91 = (u91) := (hf 91).symm.trans (hF.slot 91 (by kernel_rfl))
                      have g92 : f 92 = (u92) := (hf 92).symm.trans (hF.slot 92 (by kernel_rfl))
                      have g93 : f 93 = (u93) := (hf 93).symm.trans (hF.slot 93 (by kernel_rfl))
                      have g94 : f 94 = (u94) := (hf 94).symm.trans (hF.slot 94 (by kernel_rfl))
                      have g95 : f 95 = (u95) := (hf 95).symm.trans (hF.slot 95 (by kernel_rfl))
                      have g96 : f 96 = (u96) := (hf 96).symm.trans (hF.slot 96 (by kernel_rfl))
                      have g97 : f 97 = (u97) := (hf 97).symm.trans (hF.slot 97 (by kernel_rfl))
                      have g98 : f 98 = (u98) := (hf 98).symm.trans (hF.slot 98 (by kernel_rfl))
                      have g99 : f 99 = (u99) := (hf 99).symm.trans (hF.slot 99 (by kernel_rfl))
                      have g100 : f 100 = (u100) := (hf 100).symm.trans (hF.slot 100 (by kernel_rfl))
                      have g101 : f 101 = (u101) := (hf 101).symm.trans (hF.slot 101 (by kernel_rfl))
                      have g102 : f 102 = (u102) := (hf 102).symm.trans (hF.slot 102 (by kernel_rfl))
                      have g103 : f 103 = (u103) := (hf 103).symm.trans (hF.slot 103 (by kernel_rfl))
                      have g104 : f 104 = (u104) := (hf 104).symm.trans (hF.slot 104 (by kernel_rfl))
                      have g105 : f 105 = (u105) := (hf 105).symm.trans (hF.slot 105 (by kernel_rfl))
                      have g106 : f 106 = (u106) := (hf 106).symm.trans (hF.slot 106 (by kernel_rfl))
                      have g107 : f 107 = (u107) := (hf 107).symm.trans (hF.slot 107 (by kernel_rfl))
                      have g108 : f 108 = (u108) := (hf 108).symm.trans (hF.slot 108 (by kernel_rfl))
                      have g109 : f 109 = (u109) := (hf 109).symm.trans (hF.slot 109 (by kernel_rfl))
                      have g110 : f 110 = (u110) := (hf 110).symm.trans (hF.slot 110 (by kernel_rfl))
                      have g111 : f 111 = (u111) := (hf 111).symm.trans (hF.slot 111 (by kernel_rfl))
                      have g112 : f 112 = (u112) := (hf 112).symm.trans (hF.slot 112 (by kernel_rfl))
                      have g113 : f 113 = (u113) := (hf 113).symm.trans (hF.slot 113 (by kernel_rfl))
                      have g114 : f 114 = (u114) := (hf 114).symm.trans (hF.slot 114 (by kernel_rfl))
                      have g115 : f 115 = (u115) := (hf 115).symm.trans (hF.slot 115 (by kernel_rfl))
                      have g116 : f 116 = (u116) := (hf 116).symm.trans (hF.slot 116 (by kernel_rfl))
                      have g117 : f 117 = (u117) := (hf 117).symm.trans (hF.slot 117 (by kernel_rfl))
                      have g118 : f 118 = (u118) := (hf 118).symm.trans (hF.slot 118 (by kernel_rfl))
                      have g119 : f 119 = (u119) := (hf 119).symm.trans (hF.slot 119 (by kernel_rfl))
                      have g120 : f 120 = (u120) := (hf 120).symm.trans (hF.slot 120 (by kernel_rfl))
                      have g121 : f 121 = (u121) := (hf 121).symm.trans (hF.slot 121 (by kernel_rfl))
                      have g122 : f 122 = (u122) := (hf 122).symm.trans (hF.slot 122 (by kernel_rfl))
                      have g123 : f 123 = (u123) := (hf 123).symm.trans (hF.slot 123 (by kernel_rfl))
                      have g124 : f 124 = (u124) := (hf 124).symm.trans (hF.slot 124 (by kernel_rfl))
                      have g125 : f 125 = (u125) := (hf 125).symm.trans (hF.slot 125 (by kernel_rfl))
                      have g126 : f 126 = (u126) := (hf 126).symm.trans (hF.slot 126 (by kernel_rfl))
                      have g127 : f 127 = (u127) := (hf 127).symm.trans (hF.slot 127 (by kernel_rfl))
                      have g128 : f 128 = (u128) := (hf 128).symm.trans (hF.slot 128 (by kernel_rfl))
                      have g129 : f 129 = (u129) := (hf 129).symm.trans (hF.slot 129 (by kernel_rfl))
                      have g130 : f 130 = (u130) := (hf 130).symm.trans (hF.slot 130 (by kernel_rfl))
                      have g131 : f 131 = (u131) := (hf 131).symm.trans (hF.slot 131 (by kernel_rfl))
                      have g176 : f 176 = (u176) := (hf 176).symm.trans (hF.slot 176 (by kernel_rfl))
                      have g177 : f 177 = (u177) := (hf 177).symm.trans (hF.slot 177 (by kernel_rfl))
                      have g178 : f 178 = (u178) := (hf 178).symm.trans (hF.slot 178 (by kernel_rfl))
                      have g179 : f 179 = (u179) := (hf 179).symm.trans (hF.slot 179 (by kernel_rfl))
                      have g153 : f 153 = (.map (some mb)) := (hf 153).symm.trans (F 0 153 rfl)
                      have g154 : f 154 = (.int .i64 no) := (hf 154).symm.trans (F 1 154 rfl)
                      have g155 : f 155 = (.int .i64 (cn : Int)) := (hf 155).symm.trans (F 2 155 rfl)
                      have g156 : f 156 = (.bool false) := (hf 156).symm.trans (F 3 156 rfl)
                      have g157 : f 157 = (.bool false) := (hf 157).symm.trans (F 4 157 rfl)
                      have g158 : f 158 = (undef) := (hf 158).symm.trans (F 5 158 rfl)
                      have g159 : f 159 = (undef) := (hf 159).symm.trans (F 6 159 rfl)
                      have g160 : f 160 = (undef) := (hf 160).symm.trans (F 7 160 rfl)
                      have g161 : f 161 = (undef) := (hf 161).symm.trans (F 8 161 rfl)
                      have g162 : f 162 = (undef) := (hf 162).symm.trans (F 9 162 rfl)
                      have g163 : f 163 = (undef) := (hf 163).symm.trans (F 10 163 rfl)
                      have g164 : f 164 = (undef) := (hf 164).symm.trans (F 11 164 rfl)
                      have g165 : f 165 = (undef) := (hf 165).symm.trans (F 12 165 rfl)
                      have g166 : f 166 = (undef) := (hf 166).symm.trans (F 13 166 rfl)
                      have g167 : f 167 = (undef) := (hf 167).symm.trans (F 14 167 rfl)
                      have g168 : f 168 = (undef) := (hf 168).symm.trans (F 15 168 rfl)
                      have g169 : f 169 = (undef) := (hf 169).symm.trans (F 16 169 rfl)
                      have g170 : f 170 = (undef) := (hf 170).symm.trans (F 17 170 rfl)
                      have g171 : f 171 = (undef) := (hf 171).symm.trans (F 18 171 rfl)
                      have g172 : f 172 = (undef) := (hf 172).symm.trans (F 19 172 rfl)
                      have g173 : f 173 = (undef) := (hf 173).symm.trans (F 20 173 rfl)
                      have g174 : f 174 = (undef) := (hf 174).symm.trans (F 21 174 rfl)
                      have g175 : f 175 = (.bool false) := (hf 175).symm.trans (F 22 175 rfl)
                      have ha := Frames.frame (show a.tmps.size = 180 from hF.size) hF.defers hf (l := [f 0, f 1, f 2, f 3, f 4, f 5, f 6, f 7, f 8, f 9, f 10, f 11, f 12, f 13, f 14, f 15, f 16, f 17, f 18, f 19, f 20, f 21, f 22, f 23, f 24, f 25, f 26, f 27, f 28, f 29, f 30, f 31, f 32, f 33, f 34, f 35, f 36, f 37, f 38, f 39, f 40, f 41, f 42, f 43, f 44, f 45, f 46, f 47, f 48, f 49, f 50, f 51, f 52, f 53, f 54, f 55, f 56, f 57, f 58, f 59, f 60, f 61, f 62, f 63, f 64, f 65, f 66, f 67, f 68, f 69, f 70, f 71, f 72, f 73, f 74, f 75, f 76, f 77, f 78, f 79, f 80, f 81, f 82, f 83, f 84, f 85, f 86, f 87, f 88, f 89, f 90, f 91, f 92, f 93, f 94, f 95, f 96, f 97, f 98, f 99, f 100, f 101, f 102, f 103, f 104, f 105, f 106, f 107, f 108, f 109, f 110, f 111, f 112, f 113, f 114, f 115, f 116, f 117, f 118, f 119, f 120, f 121, f 122, f 123, f 124, f 125, f 126, f 127, f 128, f 129, f 130, f 131, f 132, f 133, f 134, f 135, f 136, f 137, f 138, f 139, f 140, f 141, f 142, f 143, f 144, f 145, f 146, f 147, f 148, f 149, f 150, f 151, f 152, f 153, f 154, f 155, f 156, f 157, f 158, f 159, f 160, f 161, f 162, f 163, f 164, f 165, f 166, f 167, f 168, f 169, f 170, f 171, f 172, f 173, f 174, f 175, f 176, f 177, f 178, f 179]) rfl
                      simp only [g0, g1, g2, g3, g4, g5, g6, g7, g8, g9, g10, g11, g12, g13, g14, g15, g16, g17, g18, g19, g20, g21, g22, g23, g24, g25, g26, g27, g28, g29, g30, g31, g32, g33, g34, g35, g36, g37, g38, g39, g40, g41, g42, g43, g44, g45, g46, g47, g48, g49, g50, g51, g52, g53, g54, g55, g56, g57, g58, g59, g60, g61, g62, g63, g64, g65, g66, g67, g68, g69, g70, g71, g72, g73, g74, g75, g76, g77, g78, g79, g80, g81, g82, g83, g84, g85, g86, g87, g88, g89, g90, g91, g92, g93, g94, g95, g96, g97, g98, g99, g100, g101, g102, g103, g104, g105, g106, g107, g108, g109, g110, g111, g112, g113, g114, g115, g116, g117, g118, g119, g120, g121, g122, g123, g124, g125, g126, g127, g128, g129, g130, g131, g176, g177, g178, g179, g153, g154, g155, g156, g157, g158, g159, g160, g161, g162, g163, g164, g165, g166, g167, g168, g169, g170, g171, g172, g173, g174, g175] at ha
                      clear F hF hf g0 g1 g2 g3 g4 g5 g6 g7 g8 g9 g10 g11 g12 g13 g14 g15 g16 g17 g18 g19 g20 g21 g22 g23 g24 g25 g26 g27 g28 g29 g30 g31 g32 g33 g34 g35 g36 g37 g38 g39 g40 g41 g42 g43 g44 g45 g46 g47 g48 g49 g50 g51 g52 g53 g54 g55 g56 g57 g58 g59 g60 g61 g62 g63 g64 g65 g66 g67 g68 g69 g70 g71 g72 g73 g74 g75 g76 g77 g78 g79 g80 g81 g82 g83 g84 g85 g86 g87 g88 g89 g90 g91 g92 g93 g94 g95 g96 g97 g98 g99 g100 g101 g102 g103 g104 g105 g106 g107 g108 g109 g110 g111 g112 g113 g114 g115 g116 g117 g118 g119 g120 g121 g122 g123 g124 g125 g126 g127 g128 g129 g130 g131 g176 g177 g178 g179 g153 g154 g155 g156 g157 g158 g159 g160 g161 g162 g163 g164 g165 g166 g167 g168 g169 g170 g171 g172 g173 g174 g175
                      subst ha
                      have hJ1 := hJ
                      obtain ⟨jk, jq, jr⟩ := hJ1
                      have HK9 := Lib.hid jk
                      clear hJ jk jq jr
                      go_wp2_with fail
                      go_roundw
                      case rel => exact ⟨k + 1, no + 1, _, _, by have := HNO.out; omega, by omega, by go_num, HK9.out, HFI.out.1, by have := HFI.out.2; omega⟩
                      case measure => simp [intOf]; omega
                  have HCN := Lib.hid (List.count_eq_zero.2 hin2)
                  have hrd := read_still HP0.out.2.2.1.inv HF1.out.inv HST.out (no := no) (by have := HP0.out.1; omega) (by rw [← HP0.out.2.1]; exact hin2)
                  have HLI := Lib.hid (lt_at HLT.out (k := k) (by have := HLT.out.2.2; have := HNO.out; omega) HNO.out)
                  have hpx := HPE.out.1
                  have hzx := HPE.out.2
                  rw [hrd] at hpx hzx
                  obtain ⟨Ax, cx9, hlx, hex⟩ := HLI.out
                  rw [← hpx] at hlx
                  rw [← hzx] at hex
                  obtain ⟨ab, ao, hA, hpc⟩ := Kd.pageAt (hJ0.1) hlx
                  obtain ⟨ae, hAe, hec⟩ := Kd.errAt (hJ0.1) hex
                  subst hAe
                  have HIX := Lib.hid (idx_page (n := l.length) (c := c) hA (show k < l.length from (List.getElem?_eq_some_iff.1 hlx).1))
                  have HLE9 := Lib.hid (show (k : Int) < (el.length : Int) from by have := (List.getElem?_eq_some_iff.1 hex).1; omega)
                  have HPC := Lib.hid hpc
                  have HEC := Lib.hid hec
                  have HXR := Lib.hid (fun (w : World) (h : Kd M W p d P1 P0 m' S' mb nf D bx B l el A c (some ae) c' w) => h.rows _ (List.mem_of_getElem? hlx))
                  have HSUB := Lib.hid (show no - 2 = (k : Int) from by have := HNO.out; omega)
                  have HPL := Lib.hid (show pq.cells.length ≤ maxLen from by rw [hpx]; exact few_cells _ _)
                  clear hpx hzx hrd hin2 hin hlx hex hpc hec hA HPE HLI
                  refine wp_region_any (by kernel_rfl) ?_
                  change wpAny _ _ _ _ _ _ _ (World.drew _)
                  refine Inv.inv_any (fun (i : Nat) (v : Value) (w : World) => match i with | 0 => v = .map (some mb) | 1 => v = .int .i64 no | 2 => v = .int .i64 0 | 3 => v = .bool true | 4 => v = .bool true | 5 => v = .int .i64 ez | 6 => v = .slice (some ae) el.length c' | 7 => v = .int .i64 no | 8 => v = .int .i64 (k : Int) | 9 => v = .pointer (some (ae.add k)) | 10 => v = .int .i64 ez | 11 => v = .bool false | 12 => v = .bool false | 13 => v = .agg #[.int .i64 pq.kind, .int .i64 pq.no, .int .i64 pq.epoch, .int .i64 pq.link, .slice A3 pq.cells.length c3] | 14 => v = .slice A l.length c | 15 => v = .int .i64 no | 16 => v = .int .i64 (k : Int) | 17 => v = .pointer (some ⟨ab, ao + k * 5, none⟩) | 18 => v = .agg #[.int .i64 pq.kind, .int .i64 pq.no, .int .i64 pq.epoch, .int .i64 pq.link, .slice Ax pq.cells.length cx9] | 19 => v = .bool true | 20 => v = .bool false | 21 => v = .bool false | 22 => v = .bool false | _ => True) (fun w' : World => Kd M W p d P1 P0 m' S' mb nf D bx B l el A c (some ae) c' w' ∧ At w' bq 69 #[.int .i64 pq.kind, .int .i64 pq.no, .int .i64 pq.epoch, .int .i64 pq.link, .slice A3 pq.cells.length c3] ∧ Row w' w'.heap.size A3 (strs pq.cells)) _ 23 180 rfl rfl rfl (by kernel_rfl) (by kernel_rfl) hJ0 ?_ ?_ ?_ ?_
                  · intro j v w w' h hb
                    match j, h with
                    | 0, h => exact h
                    | 1, h => exact h
                    | 2, h => exact h
                    | 3, h => exact h
                    | 4, h => exact h
                    | 5, h => exact h
                    | 6, h => exact h
                    | 7, h => exact h
                    | 8, h => exact h
                    | 9, h => exact h
                    | 10, h => exact h
                    | 11, h => exact h
                    | 12, h => exact h
                    | 13, h => exact h
                    | 14, h => exact h
                    | 15, h => exact h
                    | 16, h => exact h
                    | 17, h => exact h
                    | 18, h => exact h
                    | 19, h => exact h
                    | 20, h => exact h
                    | 21, h => exact h
                    | 22, h => exact h
                    | (_ + 23), _ => exact trivial
                  · skip
                    refine Inv.from_cons _ _ _ _ rfl (fun _ a w hJ hF F K hK => ?_) ?_
                    · have hz : a.tmps.size = 180 := hF.size
                      have e10 : a.tmps[10]? = some (.map (some mb)) := Inv2.some_slot (by rw [hz]; exact Nat.le_of_ble_eq_true rfl) (hF.slot 10 (by kernel_rfl))
                      clear F hF hz
                      have hJ1 := hJ
                      obtain ⟨jk, jq, jr⟩ := hJ1
                      go_simp
                      exact hK (.map (some mb)) _ hJ (Below.refl _ _) rfl
                    refine Inv.from_cons _ _ _ _ rfl (fun _ a w hJ hF F K hK => ?_) ?_
                    · have hz : a.tmps.size = 180 := hF.size
                      have e19 : a.tmps[19]? = some (.int .i64 no) := Inv2.some_slot (by rw [hz]; exact Nat.le_of_ble_eq_true rfl) (hF.slot 19 (by kernel_rfl))
                      clear F hF hz
                      have hJ1 := hJ
                      obtain ⟨jk, jq, jr⟩ := hJ1
                      go_simp
                      exact hK (.int .i64 no) _ hJ (Below.refl _ _) rfl
                    refine Inv.from_cons _ _ _ _ rfl (fun _ a w hJ hF F K hK => ?_) ?_
                    · have hz : a.tmps.size = 180 := hF.size
                      have e153 : a.tmps[153]? = some (.map (some mb)) := Inv2.some_slot (by rw [hz]; exact Nat.le_of_ble_eq_true rfl) (F 0 (by kernel_rfl) 153 rfl)
                      have e154 : a.tmps[154]? = some (.int .i64 no) := Inv2.some_slot (by rw [hz]; exact Nat.le_of_ble_eq_true rfl) (F 1 (by kernel_rfl) 154 rfl)
                      clear F hF hz
                      have hJ1 := hJ
                      obtain ⟨jk, jq, jr⟩ := hJ1
                      obtain ⟨cc, hlk, hat, _⟩ := World.ownsMap.lookup_int jk.om lawI Tryz.underlying64 Tryz.underlying3 (zeroI _) HKEY.out
                      obtain rfl := FreeCover.look HCNT.out hat
                      rw [HCN.out] at hlk
                      clear hat
                      go_simp
                      exact hK (.int .i64 0) _ hJ (Below.refl _ _) rfl
                    refine Inv.from_cons _ _ _ _ rfl (fun _ a w hJ hF F K hK => ?_) ?_
                    · have hz : a.tmps.size = 180 := hF.size
                      have e155 : a.tmps[155]? = some (.int .i64 0) := Inv2.some_slot (by rw [hz]; exact Nat.le_of_ble_eq_true rfl) (F 2 (by kernel_rfl) 155 rfl)
                      clear F hF hz
                      have hJ1 := hJ
                      obtain ⟨jk, jq, jr⟩ := hJ1
                      go_simp
                      exact hK (.bool true) _ hJ (Below.refl _ _) rfl
                    refine Inv.from_cons _ _ _ _ rfl (fun _ a w hJ hF F K hK => ?_) ?_
                    · have hz : a.tmps.size = 180 := hF.size
                      have e156 : a.tmps[156]? = some (.bool true) := Inv2.some_slot (by rw [hz]; exact Nat.le_of_ble_eq_true rfl) (F 3 (by kernel_rfl) 156 rfl)
                      clear F hF hz
                      have hJ1 := hJ
                      obtain ⟨jk, jq, jr⟩ := hJ1
                      go_simp
                      exact hK (.bool true) _ hJ (Below.refl _ _) rfl
                    refine Inv.from_cons _ _ _ _ rfl (fun _ a w hJ hF F K hK => ?_) ?_
                    · have hz : a.tmps.size = 180 := hF.size
                      have e21 : a.tmps[21]? = some (.int .i64 ez) := Inv2.some_slot (by rw [hz]; exact Nat.le_of_ble_eq_true rfl) (hF.slot 21 (by kernel_rfl))
                      have e157 : a.tmps[157]? = some (.bool true) := Inv2.some_slot (by rw [hz]; exact Nat.le_of_ble_eq_true rfl) (F 4 (by kernel_rfl) 157 rfl)
                      clear F hF hz
                      have hJ1 := hJ
                      obtain ⟨jk, jq, jr⟩ := hJ1
                      go_simp
                      exact hK (.int .i64 ez) _ hJ (Below.refl _ _) rfl
                    refine Inv.from_cons _ _ _ _ rfl (fun _ a w hJ hF F K hK => ?_) ?_
                    · have hz : a.tmps.size = 180 := hF.size
                      have e14 : a.tmps[14]? = some (.slice (some ae) el.length c') := Inv2.some_slot (by rw [hz]; exact Nat.le_of_ble_eq_true rfl) (hF.slot 14 (by kernel_rfl))
                      have e157 : a.tmps[157]? = some (.bool true) := Inv2.some_slot (by rw [hz]; exact Nat.le_of_ble_eq_true rfl) (F 4 (by kernel_rfl) 157 rfl)
                      clear F hF hz
                      have hJ1 := hJ
                      obtain ⟨jk, jq, jr⟩ := hJ1
                      go_simp
                      exact hK (.slice (some ae) el.length c') _ hJ (Below.refl _ _) rfl
                    refine Inv.from_cons _ _ _ _ rfl (fun _ a w hJ hF F K hK => ?_) ?_
                    · have hz : a.tmps.size = 180 := hF.size
                      have e19 : a.tmps[19]? = some (.int .i64 no) := Inv2.some_slot (by rw [hz]; exact Nat.le_of_ble_eq_true rfl) (hF.slot 19 (by kernel_rfl))
                      have e157 : a.tmps[157]? = some (.bool true) := Inv2.some_slot (by rw [hz]; exact Nat.le_of_ble_eq_true rfl) (F 4 (by kernel_rfl) 157 rfl)
                      clear F hF hz
                      have hJ1 := hJ
                      obtain ⟨jk, jq, jr⟩ := hJ1
                      go_simp
                      exact hK (.int .i64 no) _ hJ (Below.refl _ _) rfl
                    refine Inv.from_cons _ _ _ _ rfl (fun _ a w hJ hF F K hK => ?_) ?_
                    · have hz : a.tmps.size = 180 := hF.size
                      have e157 : a.tmps[157]? = some (.bool true) := Inv2.some_slot (by rw [hz]; exact Nat.le_of_ble_eq_true rfl) (F 4 (by kernel_rfl) 157 rfl)
                      have e160 : a.tmps[160]? = some (.int .i64 no) := Inv2.some_slot (by rw [hz]; exact Nat.le_of_ble_eq_true rfl) (F 7 (by kernel_rfl) 160 rfl)
                      clear F hF hz
                      have hJ1 := hJ
                      obtain ⟨jk, jq, jr⟩ := hJ1
                      have hw := HSUB.out
                      have hw2 := IntWalk.i64_in (k : Int) (by omega)
                      go_simp
                      exact hK (.int .i64 (k : Int)) _ hJ (Below.refl _ _) rfl
                    refine Inv.from_cons _ _ _ _ rfl (fun _ a w hJ hF F K hK => ?_) ?_
                    · have hz : a.tmps.size = 180 := hF.size
                      have e157 : a.tmps[157]? = some (.bool true) := Inv2.some_slot (by rw [hz]; exact Nat.le_of_ble_eq_true rfl) (F 4 (by kernel_rfl) 157 rfl)
                      have e159 : a.tmps[159]? = some (.slice (some ae) el.length c') := Inv2.some_slot (by rw [hz]; exact Nat.le_of_ble_eq_true rfl) (F 6 (by kernel_rfl) 159 rfl)
                      have e161 : a.tmps[161]? = some (.int .i64 (k : Int)) := Inv2.some_slot (by rw [hz]; exact Nat.le_of_ble_eq_true rfl) (F 8 (by kernel_rfl) 161 rfl)
                      clear F hF hz
                      have hJ1 := hJ
                      obtain ⟨jk, jq, jr⟩ := hJ1
                      have hlt := HLE9.out
                      go_simp
                      exact hK (.pointer (some (ae.add k))) _ hJ (Below.refl _ _) rfl
                    refine Inv.from_cons _ _ _ _ rfl (fun _ a w hJ hF F K hK => ?_) ?_
                    · have hz : a.tmps.size = 180 := hF.size
                      have e157 : a.tmps[157]? = some (.bool true) := Inv2.some_slot (by rw [hz]; exact Nat.le_of_ble_eq_true rfl) (F 4 (by kernel_rfl) 157 rfl)
                      have e162 : a.tmps[162]? = some (.pointer (some (ae.add k))) := Inv2.some_slot (by rw [hz]; exact Nat.le_of_ble_eq_true rfl) (F 9 (by kernel_rfl) 162 rfl)
                      clear F hF hz
                      have hJ1 := hJ
                      obtain ⟨jk, jq, jr⟩ := hJ1
                      have hc := HEC.out w jk
                      go_simp
                      exact hK (.int .i64 ez) _ hJ (Below.refl _ _) rfl
                    refine Inv.from_cons _ _ _ _ rfl (fun _ a w hJ hF F K hK => ?_) ?_
                    · have hz : a.tmps.size = 180 := hF.size
                      have e157 : a.tmps[157]? = some (.bool true) := Inv2.some_slot (by rw [hz]; exact Nat.le_of_ble_eq_true rfl) (F 4 (by kernel_rfl) 157 rfl)
                      have e158 : a.tmps[158]? = some (.int .i64 ez) := Inv2.some_slot (by rw [hz]; exact Nat.le_of_ble_eq_true rfl) (F 5 (by kernel_rfl) 158 rfl)
                      have e163 : a.tmps[163]? = some (.int .i64 ez) := Inv2.some_slot (by rw [hz]; exact Nat.le_of_ble_eq_true rfl) (F 10 (by kernel_rfl) 163 rfl)
                      clear F hF hz
                      have hJ1 := hJ
                      obtain ⟨jk, jq, jr⟩ := hJ1
                      go_simp
                      exact hK (.bool false) _ hJ (Below.refl _ _) rfl
                    refine Inv.from_cons _ _ _ _ rfl (fun _ a w hJ hF F K hK => ?_) ?_
                    · have hz : a.tmps.size = 180 := hF.size
                      have e157 : a.tmps[157]? = some (.bool true) := Inv2.some_slot (by rw [hz]; exact Nat.le_of_ble_eq_true rfl) (F 4 (by kernel_rfl) 157 rfl)
                      have e164 : a.tmps[164]? = some (.bool false) := Inv2.some_slot (by rw [hz]; exact Nat.le_of_ble_eq_true rfl) (F 11 (by kernel_rfl) 164 rfl)
                      clear F hF hz
                      have hJ1 := hJ
                      obtain ⟨jk, jq, jr⟩ := hJ1
                      go_simp
                      exact hK (.bool false) _ hJ (Below.refl _ _) rfl
                    refine Inv.from_cons _ _ _ _ rfl (fun _ a w hJ hF F K hK => ?_) ?_
                    · have hz : a.tmps.size = 180 := hF.size
                      have e20 : a.tmps[20]? = some (.pointer (some ⟨bq, 0, none⟩)) := Inv2.some_slot (by rw [hz]; exact Nat.le_of_ble_eq_true rfl) (hF.slot 20 (by kernel_rfl))
                      have e165 : a.tmps[165]? = some (.bool false) := Inv2.some_slot (by rw [hz]; exact Nat.le_of_ble_eq_true rfl) (F 12 (by kernel_rfl) 165 rfl)
                      clear F hF hz
                      have hJ1 := hJ
                      obtain ⟨jk, jq, jr⟩ := hJ1
                      obtain ⟨d0, d1, d2, d3, d4⟩ := five_at jq
                      go_simp
                      exact hK (.agg #[.int .i64 pq.kind, .int .i64 pq.no, .int .i64 pq.epoch, .int .i64 pq.link, .slice A3 pq.cells.length c3]) _ hJ (Below.refl _ _) rfl
                    refine Inv.from_cons _ _ _ _ rfl (fun _ a w hJ hF F K hK => ?_) ?_
                    · have hz : a.tmps.size = 180 := hF.size
                      have e13 : a.tmps[13]? = some (.slice A l.length c) := Inv2.some_slot (by rw [hz]; exact Nat.le_of_ble_eq_true rfl) (hF.slot 13 (by kernel_rfl))
                      have e165 : a.tmps[165]? = some (.bool false) := Inv2.some_slot (by rw [hz]; exact Nat.le_of_ble_eq_true rfl) (F 12 (by kernel_rfl) 165 rfl)
                      clear F hF hz
                      have hJ1 := hJ
                      obtain ⟨jk, jq, jr⟩ := hJ1
                      go_simp
                      exact hK (.slice A l.length c) _ hJ (Below.refl _ _) rfl
                    refine Inv.from_cons _ _ _ _ rfl (fun _ a w hJ hF F K hK => ?_) ?_
                    · have hz : a.tmps.size = 180 := hF.size
                      have e19 : a.tmps[19]? = some (.int .i64 no) := Inv2.some_slot (by rw [hz]; exact Nat.le_of_ble_eq_true rfl) (hF.slot 19 (by kernel_rfl))
                      have e165 : a.tmps[165]? = some (.bool false) := Inv2.some_slot (by rw [hz]; exact Nat.le_of_ble_eq_true rfl) (F 12 (by kernel_rfl) 165 rfl)
                      clear F hF hz
                      have hJ1 := hJ
                      obtain ⟨jk, jq, jr⟩ := hJ1
                      go_simp
                      exact hK (.int .i64 no) _ hJ (Below.refl _ _) rfl
                    refine Inv.from_cons _ _ _ _ rfl (fun _ a w hJ hF F K hK => ?_) ?_
                    · have hz : a.tmps.size = 180 := hF.size
                      have e165 : a.tmps[165]? = some (.bool false) := Inv2.some_slot (by rw [hz]; exact Nat.le_of_ble_eq_true rfl) (F 12 (by kernel_rfl) 165 rfl)
                      have e168 : a.tmps[168]? = some (.int .i64 no) := Inv2.some_slot (by rw [hz]; exact Nat.le_of_ble_eq_true rfl) (F 15 (by kernel_rfl) 168 rfl)
                      clear F hF hz
                      have hJ1 := hJ
                      obtain ⟨jk, jq, jr⟩ := hJ1
                      have hw := HSUB.out
                      have hw2 := IntWalk.i64_in (k : Int) (by omega)
                      go_simp
                      exact hK (.int .i64 (k : Int)) _ hJ (Below.refl _ _) rfl
                    refine Inv.from_cons _ _ _ _ rfl (fun _ a w hJ hF F K hK => ?_) ?_
                    · have hz : a.tmps.size = 180 := hF.size
                      have e165 : a.tmps[165]? = some (.bool false) := Inv2.some_slot (by rw [hz]; exact Nat.le_of_ble_eq_true rfl) (F 12 (by kernel_rfl) 165 rfl)
                      have e167 : a.tmps[167]? = some (.slice A l.length c) := Inv2.some_slot (by rw [hz]; exact Nat.le_of_ble_eq_true rfl) (F 14 (by kernel_rfl) 167 rfl)
                      have e169 : a.tmps[169]? = some (.int .i64 (k : Int)) := Inv2.some_slot (by rw [hz]; exact Nat.le_of_ble_eq_true rfl) (F 16 (by kernel_rfl) 169 rfl)
                      clear F hF hz
                      have hJ1 := hJ
                      obtain ⟨jk, jq, jr⟩ := hJ1
                      have hidx := HIX.out w
                      go_simp
                      exact hK (.pointer (some ⟨ab, ao + k * 5, none⟩)) _ hJ (Below.refl _ _) rfl
                    refine Inv.from_cons _ _ _ _ rfl (fun _ a w hJ hF F K hK => ?_) ?_
                    · have hz : a.tmps.size = 180 := hF.size
                      have e165 : a.tmps[165]? = some (.bool false) := Inv2.some_slot (by rw [hz]; exact Nat.le_of_ble_eq_true rfl) (F 12 (by kernel_rfl) 165 rfl)
                      have e170 : a.tmps[170]? = some (.pointer (some ⟨ab, ao + k * 5, none⟩)) := Inv2.some_slot (by rw [hz]; exact Nat.le_of_ble_eq_true rfl) (F 17 (by kernel_rfl) 170 rfl)
                      clear F hF hz
                      have hJ1 := hJ
                      obtain ⟨jk, jq, jr⟩ := hJ1
                      obtain ⟨d0, d1, d2, d3, d4⟩ := HPC.out w jk
                      go_simp
                      exact hK (.agg #[.int .i64 pq.kind, .int .i64 pq.no, .int .i64 pq.epoch, .int .i64 pq.link, .slice Ax pq.cells.length cx9]) _ hJ (Below.refl _ _) rfl
                    refine Inv.from_cons _ _ _ _ rfl (fun _ a w hJ hF F K hK => ?_) ?_
                    · have hz : a.tmps.size = 180 := hF.size
                      have e165 : a.tmps[165]? = some (.bool false) := Inv2.some_slot (by rw [hz]; exact Nat.le_of_ble_eq_true rfl) (F 12 (by kernel_rfl) 165 rfl)
                      have e166 : a.tmps[166]? = some (.agg #[.int .i64 pq.kind, .int .i64 pq.no, .int .i64 pq.epoch, .int .i64 pq.link, .slice A3 pq.cells.length c3]) := Inv2.some_slot (by rw [hz]; exact Nat.le_of_ble_eq_true rfl) (F 13 (by kernel_rfl) 166 rfl)
                      have e171 : a.tmps[171]? = some (.agg #[.int .i64 pq.kind, .int .i64 pq.no, .int .i64 pq.epoch, .int .i64 pq.link, .slice Ax pq.cells.length cx9]) := Inv2.some_slot (by rw [hz]; exact Nat.le_of_ble_eq_true rfl) (F 18 (by kernel_rfl) 171 rfl)
                      clear F hF hz
                      have hJ1 := hJ
                      obtain ⟨jk, jq, jr⟩ := hJ1
                      have hh : Calls Tryz.prog 26 #[.agg #[.int .i64 pq.kind, .int .i64 pq.no, .int .i64 pq.epoch, .int .i64 pq.link, .slice A3 pq.cells.length c3], .agg #[.int .i64 pq.kind, .int .i64 pq.no, .int .i64 pq.epoch, .int .i64 pq.link, .slice Ax pq.cells.length cx9]] w fun e w' => e = .returned (.bool (PageSame.same pq pq)) ∧ Below w.heap.size w w' := PageRef.rsame_any w pq pq A3 Ax c3 cx9 jr (HXR.out w jk).row HPL.out
                      rw [(PageSame.same_iff _ _).2 rfl] at hh
                      go_simp
                      (with_reducible refine hh.mono ?_)
                      rintro e' w' ⟨rfl, hb⟩
                      go_simp
                      exact hK _ _ ⟨jk.below X hb, atb jq hb, jr.belowSize hb⟩ hb rfl
                    refine Inv.from_cons _ _ _ _ rfl (fun _ a w hJ hF F K hK => ?_) ?_
                    · have hz : a.tmps.size = 180 := hF.size
                      have e165 : a.tmps[165]? = some (.bool false) := Inv2.some_slot (by rw [hz]; exact Nat.le_of_ble_eq_true rfl) (F 12 (by kernel_rfl) 165 rfl)
                      have e172 : a.tmps[172]? = some (.bool true) := Inv2.some_slot (by rw [hz]; exact Nat.le_of_ble_eq_true rfl) (F 19 (by kernel_rfl) 172 rfl)
                      clear F hF hz
                      have hJ1 := hJ
                      obtain ⟨jk, jq, jr⟩ := hJ1
                      go_simp
                      exact hK (.bool false) _ hJ (Below.refl _ _) rfl
                    refine Inv.from_cons _ _ _ _ rfl (fun _ a w hJ hF F K hK => ?_) ?_
                    · have hz : a.tmps.size = 180 := hF.size
                      have e157 : a.tmps[157]? = some (.bool true) := Inv2.some_slot (by rw [hz]; exact Nat.le_of_ble_eq_true rfl) (F 4 (by kernel_rfl) 157 rfl)
                      have e165 : a.tmps[165]? = some (.bool false) := Inv2.some_slot (by rw [hz]; exact Nat.le_of_ble_eq_true rfl) (F 12 (by kernel_rfl) 165 rfl)
                      have e173 : a.tmps[173]? = some (.bool false) := Inv2.some_slot (by rw [hz]; exact Nat.le_of_ble_eq_true rfl) (F 20 (by kernel_rfl) 173 rfl)
                      clear F hF hz
                      have hJ1 := hJ
                      obtain ⟨jk, jq, jr⟩ := hJ1
                      go_simp
                      exact hK (.bool false) _ hJ (Below.refl _ _) rfl
                    refine Inv.from_cons _ _ _ _ rfl (fun _ a w hJ hF F K hK => ?_) ?_
                    · have hz : a.tmps.size = 180 := hF.size
                      have e157 : a.tmps[157]? = some (.bool true) := Inv2.some_slot (by rw [hz]; exact Nat.le_of_ble_eq_true rfl) (F 4 (by kernel_rfl) 157 rfl)
                      have e174 : a.tmps[174]? = some (.bool false) := Inv2.some_slot (by rw [hz]; exact Nat.le_of_ble_eq_true rfl) (F 21 (by kernel_rfl) 174 rfl)
                      clear F hF hz
                      have hJ1 := hJ
                      obtain ⟨jk, jq, jr⟩ := hJ1
                      go_simp
                      exact hK (.bool false) _ hJ (Below.refl _ _) rfl
                    exact Inv.from_end _ _ _ _ (by decide +kernel)
                  · intro o ho; exact absurd ho (by simp)
                  · intro _ a w hJ hF F
                    obtain ⟨f, hf⟩ : ∃ f : Nat → Value, ∀ i, a.tmps.getD i undef = f i := ⟨_, fun _ => rfl⟩
                    have g0 : f 0 = (.slice XA xs.length cx) := (hf 0).symm.trans (hF.slot 0 (by kernel_rfl))
                    have g1 : f 1 = (.slice XB ys.length cy) := (hf 1).symm.trans (hF.slot 1 (by kernel_rfl))
                    have g2 : f 2 = (undef) := (hf 2).symm.trans (hF.slot 2 (by kernel_rfl))
                    have g3 : f 3 = (undef) := (hf 3).symm.trans (hF.slot 3 (by kernel_rfl))
                    have g4 : f 4 = (u4) := (hf 4).symm.trans (hF.slot 4 (by kernel_rfl))
                    have g5 : f 5 = (.pointer (some ⟨p, 0, none⟩)) := (hf 5).symm.trans (hF.slot 5 (by kernel_rfl))
                    have g6 : f 6 = (.pointer (some ⟨d, 0, none⟩)) := (hf 6).symm.trans (hF.slot 6 (by kernel_rfl))
                    have g7 : f 7 = (u7) := (hf 7).symm.trans (hF.slot 7 (by kernel_rfl))
                    have g8 : f 8 = (.pointer (some ⟨bx, 0, none⟩)) := (hf 8).symm.trans (hF.slot 8 (by kernel_rfl))
                    have g9 : f 9 = (.int .i64 P0.pg) := (hf 9).symm.trans (hF.slot 9 (by kernel_rfl))
                    have g10 : f 10 = (.map (some mb)) := (hf 10).symm.trans (hF.slot 10 (by kernel_rfl))
                    have g11 : f 11 = (.slice A1 P0.fl.length k1) := (hf 11).symm.trans (hF.slot 11 (by kernel_rfl))
                    have g12 : f 12 = (.int .i64 (P0.fl.length : Int)) := (hf 12).symm.trans (hF.slot 12 (by kernel_rfl))
                    have g13 : f 13 = (.slice A l.length c) := (hf 13).symm.trans (hF.slot 13 (by kernel_rfl))
                    have g14 : f 14 = (.slice (some ae) el.length c') := (hf 14).symm.trans (hF.slot 14 (by kernel_rfl))
                    have g15 : f 15 = (.int .i64 P0.pg) := (hf 15).symm.trans (hF.slot 15 (by kernel_rfl))
                    have g16 : f 16 = (u16) := (hf 16).symm.trans (hF.slot 16 (by kernel_rfl))
                    have g17 : f 17 = (u17) := (hf 17).symm.trans (hF.slot 17 (by kernel_rfl))
                    have g18 : f 18 = (u18) := (hf 18).symm.trans (hF.slot 18 (by kernel_rfl))
                    have g19 : f 19 = (.int .i64 no) := (hf 19).symm.trans (hF.slot 19 (by kernel_rfl))
                    have g20 : f 20 = (.pointer (some ⟨bq, 0, none⟩)) := (hf 20).symm.trans (hF.slot 20 (by kernel_rfl))
                    have g21 : f 21 = (.int .i64 ez) := (hf 21).symm.trans (hF.slot 21 (by kernel_rfl))
                    have g22 : f 22 = (u22) := (hf 22).symm.trans (hF.slot 22 (by kernel_rfl))
                    have g23 : f 23 = (u23) := (hf 23).symm.trans (hF.slot 23 (by kernel_rfl))
                    have g24 : f 24 = (u24) := (hf 24).symm.trans (hF.slot 24 (by kernel_rfl))
                    have g25 : f 25 = (u25) := (hf 25).symm.trans (hF.slot 25 (by kernel_rfl))
                    have g26 : f 26 = (u26) := (hf 26).symm.trans (hF.slot 26 (by kernel_rfl))
                    have g27 : f 27 = (u27) := (hf 27).symm.trans (hF.slot 27 (by kernel_rfl))
                    have g28 : f 28 = (u28) := (hf 28).symm.trans (hF.slot 28 (by kernel_rfl))
                    have g29 : f 29 = (u29) := (hf 29).symm.trans (hF.slot 29 (by kernel_rfl))
                    have g30 : f 30 = (u30) := (hf 30).symm.trans (hF.slot 30 (by kernel_rfl))
                    have g31 : f 31 = (u31) := (hf 31).symm.trans (hF.slot 31 (by kernel_rfl))
                    have g32 : f 32 = (u32) := (hf 32).symm.trans (hF.slot 32 (by kernel_rfl))
                    have g33 : f 33 = (u33) := (hf 33).symm.trans (hF.slot 33 (by kernel_rfl))
                    have g34 : f 34 = (u34) := (hf 34).symm.trans (hF.slot 34 (by kernel_rfl))
                    have g35 : f 35 = (u35) := (hf 35).symm.trans (hF.slot 35 (by kernel_rfl))
                    have g36 : f 36 = (u36) := (hf 36).symm.trans (hF.slot 36 (by kernel_rfl))
                    have g37 : f 37 = (u37) := (hf 37).symm.trans (hF.slot 37 (by kernel_rfl))
                    have g38 : f 38 = (u38) := (hf 38).symm.trans (hF.slot 38 (by kernel_rfl))
                    have g39 : f 39 = (u39) := (hf 39).symm.trans (hF.slot 39 (by kernel_rfl))
                    have g40 : f 40 = (u40) := (hf 40).symm.trans (hF.slot 40 (by kernel_rfl))
                    have g41 : f 41 = (u41) := (hf 41).symm.trans (hF.slot 41 (by kernel_rfl))
                    have g42 : f 42 = (u42) := (hf 42).symm.trans (hF.slot 42 (by kernel_rfl))
                    have g43 : f 43 = (u43) := (hf 43).symm.trans (hF.slot 43 (by kernel_rfl))
                    have g44 : f 44 = (u44) := (hf 44).symm.trans (hF.slot 44 (by kernel_rfl))
                    have g45 : f 45 = (u45) := (hf 45).symm.trans (hF.slot 45 (by kernel_rfl))
                    have g46 : f 46 = (u46) := (hf 46).symm.trans (hF.slot 46 (by kernel_rfl))
                    have g47 : f 47 = (u47) := (hf 47).symm.trans (hF.slot 47 (by kernel_rfl))
                    have g48 : f 48 = (u48) := (hf 48).symm.trans (hF.slot 48 (by kernel_rfl))
                    have g49 : f 49 = (u49) := (hf 49).symm.trans (hF.slot 49 (by kernel_rfl))
                    have g50 : f 50 = (u50) := (hf 50).symm.trans (hF.slot 50 (by kernel_rfl))
                    have g51 : f 51 = (u51) := (hf 51).symm.trans (hF.slot 51 (by kernel_rfl))
                    have g52 : f 52 = (u52) := (hf 52).symm.trans (hF.slot 52 (by kernel_rfl))
                    have g53 : f 53 = (u53) := (hf 53).symm.trans (hF.slot 53 (by kernel_rfl))
                    have g54 : f 54 = (u54) := (hf 54).symm.trans (hF.slot 54 (by kernel_rfl))
                    have g55 : f 55 = (u55) := (hf 55).symm.trans (hF.slot 55 (by kernel_rfl))
                    have g56 : f 56 = (u56) := (hf 56).symm.trans (hF.slot 56 (by kernel_rfl))
                    have g57 : f 57 = (u57) := (hf 57).symm.trans (hF.slot 57 (by kernel_rfl))
                    have g58 : f 58 = (u58) := (hf 58).symm.trans (hF.slot 58 (by kernel_rfl))
                    have g59 : f 59 = (u59) := (hf 59).symm.trans (hF.slot 59 (by kernel_rfl))
                    have g60 : f 60 = (u60) := (hf 60).symm.trans (hF.slot 60 (by kernel_rfl))
                    have g61 : f 61 = (u61) := (hf 61).symm.trans (hF.slot 61 (by kernel_rfl))
                    have g62 : f 62 = (u62) := (hf 62).symm.trans (hF.slot 62 (by kernel_rfl))
                    have g63 : f 63 = (u63) := (hf 63).symm.trans (hF.slot 63 (by kernel_rfl))
                    have g64 : f 64 = (u64) := (hf 64).symm.trans (hF.slot 64 (by kernel_rfl))
                    have g65 : f 65 = (.map (some mb)) := (hf 65).symm.trans (hF.slot 65 (by kernel_rfl))
                    have g66 : f 66 = (.pointer (some ⟨p, 0, none⟩)) := (hf 66).symm.trans (hF.slot 66 (by kernel_rfl))
                    have g67 : f 67 = (.slice A1 P0.fl.length k1) := (hf 67).symm.trans (hF.slot 67 (by kernel_rfl))
                    have g68 : f 68 = (.int .i64 (P0.fl.length : Int)) := (hf 68).symm.trans (hF.slot 68 (by kernel_rfl))
                    have g69 : f 69 = (.slice A1 P0.fl.length k1) := (hf 69).symm.trans (hF.slot 69 (by kernel_rfl))
                    have g70 : f 70 = (.int .i64 (P0.fl.length : Int)) := (hf 70).symm.trans (hF.slot 70 (by kernel_rfl))
                    have g71 : f 71 = (.bool false) := (hf 71).symm.trans (hF.slot 71 (by kernel_rfl))
                    have g72 : f 72 = (u72) := (hf 72).symm.trans (hF.slot 72 (by kernel_rfl))
                    have g73 : f 73 = (u73) := (hf 73).symm.trans (hF.slot 73 (by kernel_rfl))
                    have g74 : f 74 = (u74) := (hf 74).symm.trans (hF.slot 74 (by kernel_rfl))
                    have g75 : f 75 = (u75) := (hf 75).symm.trans (hF.slot 75 (by kernel_rfl))
                    have g76 : f 76 = (u76) := (hf 76).symm.trans (hF.slot 76 (by kernel_rfl))
                    have g77 : f 77 = (u77) := (hf 77).symm.trans (hF.slot 77 (by kernel_rfl))
                    have g78 : f 78 = (u78) := (hf 78).symm.trans (hF.slot 78 (by kernel_rfl))
                    have g79 : f 79 = (u79) := (hf 79).symm.trans (hF.slot 79 (by kernel_rfl))
                    have g80 : f 80 = (.slice (some ⟨B, 0, none⟩) 0 0) := (hf 80).symm.trans (hF.slot 80 (by kernel_rfl))
                    have g81 : f 81 = (.slice (some ⟨B + 1, 0, none⟩) 0 0) := (hf 81).symm.trans (hF.slot 81 (by kernel_rfl))
                    have g82 : f 82 = (.int .i64 P0.pg) := (hf 82).symm.trans (hF.slot 82 (by kernel_rfl))
                    have g83 : f 83 = (.int .i64 P0.pg) := (hf 83).symm.trans (hF.slot 83 (by kernel_rfl))
                    have g84 : f 84 = (.bool false) := (hf 84).symm.trans (hF.slot 84 (by kernel_rfl))
                    have g85 : f 85 = (u85) := (hf 85).symm.trans (hF.slot 85 (by kernel_rfl))
                    have g86 : f 86 = (u86) := (hf 86).symm.trans (hF.slot 86 (by kernel_rfl))
                    have g87 : f 87 = (u87) := (hf 87).symm.trans (hF.slot 87 (by kernel_rfl))
                    have g88 : f 88 = (u88) := (hf 88).symm.trans (hF.slot 88 (by kernel_rfl))
                    have g89 : f 89 = (u89) := (hf 89).symm.trans (hF.slot 89 (by kernel_rfl))
                    have g90 : f 90 = (u90) := (hf 90).symm.trans (hF.slot 90 (by kernel_rfl))
                    have g91 : f 91 = (u91) := (hf 91).symm.trans (hF.slot 91 (by kernel_rfl))
                    have g92 : f 92 = (u92) := (hf 92).symm.trans (hF.slot 92 (by kernel_rfl))
                    have g93 : f 93 = (u93) := (hf 93).symm.trans (hF.slot 93 (by kernel_rfl))
                    have g94 : f 94 = (u94) := (hf 94).symm.trans (hF.slot 94 (by kernel_rfl))
                    have g95 : f 95 = (u95) := (hf 95).symm.trans (hF.slot 95 (by kernel_rfl))
                    have g96 : f 96 = (u96) := (hf 96).symm.trans (hF.slot 96 (by kernel_rfl))
                    have g97 : f 97 = (u97) := (hf 97).symm.trans (hF.slot 97 (by kernel_rfl))
                    have g98 : f 98 = (u98) := (hf 98).symm.trans (hF.slot 98 (by kernel_rfl))
                    have g99 : f 99 = (u99) := (hf 99).symm.trans (hF.slot 99 (by kernel_rfl))
                    have g100 : f 100 = (u100) := (hf 100).symm.trans (hF.slot 100 (by kernel_rfl))
                    have g101 : f 101 = (u101) := (hf 101).symm.trans (hF.slot 101 (by kernel_rfl))
                    have g102 : f 102 = (u102) := (hf 102).symm.trans (hF.slot 102 (by kernel_rfl))
                    have g103 : f 103 = (u103) := (hf 103).symm.trans (hF.slot 103 (by kernel_rfl))
                    have g104 : f 104 = (u104) := (hf 104).symm.trans (hF.slot 104 (by kernel_rfl))
                    have g105 : f 105 = (u105) := (hf 105).symm.trans (hF.slot 105 (by kernel_rfl))
                    have g106 : f 106 = (u106) := (hf 106).symm.trans (hF.slot 106 (by kernel_rfl))
                    have g107 : f 107 = (u107) := (hf 107).symm.trans (hF.slot 107 (by kernel_rfl))
                    have g108 : f 108 = (u108) := (hf 108).symm.trans (hF.slot 108 (by kernel_rfl))
                    have g109 : f 109 = (u109) := (hf 109).symm.trans (hF.slot 109 (by kernel_rfl))
                    have g110 : f 110 = (u110) := (hf 110).symm.trans (hF.slot 110 (by kernel_rfl))
                    have g111 : f 111 = (u111) := (hf 111).symm.trans (hF.slot 111 (by kernel_rfl))
                    have g112 : f 112 = (u112) := (hf 112).symm.trans (hF.slot 112 (by kernel_rfl))
                    have g113 : f 113 = (u113) := (hf 113).symm.trans (hF.slot 113 (by kernel_rfl))
                    have g114 : f 114 = (u114) := (hf 114).symm.trans (hF.slot 114 (by kernel_rfl))
                    have g115 : f 115 = (u115) := (hf 115).symm.trans (hF.slot 115 (by kernel_rfl))
                    have g116 : f 116 = (u116) := (hf 116).symm.trans (hF.slot 116 (by kernel_rfl))
                    have g117 : f 117 = (u117) := (hf 117).symm.trans (hF.slot 117 (by kernel_rfl))
                    have g118 : f 118 = (u118) := (hf 118).symm.trans (hF.slot 118 (by kernel_rfl))
                    have g119 : f 119 = (u119) := (hf 119).symm.trans (hF.slot 119 (by kernel_rfl))
                    have g120 : f 120 = (u120) := (hf 120).symm.trans (hF.slot 120 (by kernel_rfl))
                    have g121 : f 121 = (u121) := (hf 121).symm.trans (hF.slot 121 (by kernel_rfl))
                    have g122 : f 122 = (u122) := (hf 122).symm.trans (hF.slot 122 (by kernel_rfl))
                    have g123 : f 123 = (u123) := (hf 123).symm.trans (hF.slot 123 (by kernel_rfl))
                    have g124 : f 124 = (u124) := (hf 124).symm.trans (hF.slot 124 (by kernel_rfl))
                    have g125 : f 125 = (u125) := (hf 125).symm.trans (hF.slot 125 (by kernel_rfl))
                    have g126 : f 126 = (u126) := (hf 126).symm.trans (hF.slot 126 (by kernel_rfl))
                    have g127 : f 127 = (u127) := (hf 127).symm.trans (hF.slot 127 (by kernel_rfl))
                    have g128 : f 128 = (u128) := (hf 128).symm.trans (hF.slot 128 (by kernel_rfl))
                    have g129 : f 129 = (u129) := (hf 129).symm.trans (hF.slot 129 (by kernel_rfl))
                    have g130 : f 130 = (u130) := (hf 130).symm.trans (hF.slot 130 (by kernel_rfl))
                    have g131 : f 131 = (u131) := (hf 131).symm.trans (hF.slot 131 (by kernel_rfl))
                    have g176 : f 176 = (u176) := (hf 176).symm.trans (hF.slot 176 (by kernel_rfl))
                    have g177 : f 177 = (u177) := (hf 177).symm.trans (hF.slot 177 (by kernel_rfl))
                    have g178 : f 178 = (u178) := (hf 178).symm.trans (hF.slot 178 (by kernel_rfl))
                    have g179 : f 179 = (u179) := (hf 179).symm.trans (hF.slot 179 (by kernel_rfl))
                    have g153 : f 153 = (.map (some mb)) := (hf 153).symm.trans (F 0 153 rfl)
                    have g154 : f 154 = (.int .i64 no) := (hf 154).symm.trans (F 1 154 rfl)
                    have g155 : f 155 = (.int .i64 0) := (hf 155).symm.trans (F 2 155 rfl)
                    have g156 : f 156 = (.bool true) := (hf 156).symm.trans (F 3 156 rfl)
                    have g157 : f 157 = (.bool true) := (hf 157).symm.trans (F 4 157 rfl)
                    have g158 : f 158 = (.int .i64 ez) := (hf 158).symm.trans (F 5 158 rfl)
                    have g159 : f 159 = (.slice (some ae) el.length c') := (hf 159).symm.trans (F 6 159 rfl)
                    have g160 : f 160 = (.int .i64 no) := (hf 160).symm.trans (F 7 160 rfl)
                    have g161 : f 161 = (.int .i64 (k : Int)) := (hf 161).symm.trans (F 8 161 rfl)
                    have g162 : f 162 = (.pointer (some (ae.add k))) := (hf 162).symm.trans (F 9 162 rfl)
                    have g163 : f 163 = (.int .i64 ez) := (hf 163).symm.trans (F 10 163 rfl)
                    have g164 : f 164 = (.bool false) := (hf 164).symm.trans (F 11 164 rfl)
                    have g165 : f 165 = (.bool false) := (hf 165).symm.trans (F 12 165 rfl)
                    have g166 : f 166 = (.agg #[.int .i64 pq.kind, .int .i64 pq.no, .int .i64 pq.epoch, .int .i64 pq.link, .slice A3 pq.cells.length c3]) := (hf 166).symm.trans (F 13 166 rfl)
                    have g167 : f 167 = (.slice A l.length c) := (hf 167).symm.trans (F 14 167 rfl)
                    have g168 : f 168 = (.int .i64 no) := (hf 168).symm.trans (F 15 168 rfl)
                    have g169 : f 169 = (.int .i64 (k : Int)) := (hf 169).symm.trans (F 16 169 rfl)
                    have g170 : f 170 = (.pointer (some ⟨ab, ao + k * 5, none⟩)) := (hf 170).symm.trans (F 17 170 rfl)
                    have g171 : f 171 = (.agg #[.int .i64 pq.kind, .int .i64 pq.no, .int .i64 pq.epoch, .int .i64 pq.link, .slice Ax pq.cells.length cx9]) := (hf 171).symm.trans (F 18 171 rfl)
                    have g172 : f 172 = (.bool true) := (hf 172).symm.trans (F 19 172 rfl)
                    have g173 : f 173 = (.bool false) := (hf 173).symm.trans (F 20 173 rfl)
                    have g174 : f 174 = (.bool false) := (hf 174).symm.trans (F 21 174 rfl)
                    have g175 : f 175 = (.bool false) := (hf 175).symm.trans (F 22 175 rfl)
                    have ha := Frames.frame (show a.tmps.size = 180 from hF.size) hF.defers hf (l := [f 0, f 1, f 2, f 3, f 4, f 5, f 6, f 7, f 8, f 9, f 10, f 11, f 12, f 13, f 14, f 15, f 16, f 17, f 18, f 19, f 20, f 21, f 22, f 23, f 24, f 25, f 26, f 27, f 28, f 29, f 30, f 31, f 32, f 33, f 34, f 35, f 36, f 37, f 38, f 39, f 40, f 41, f 42, f 43, f 44, f 45, f 46, f 47, f 48, f 49, f 50, f 51, f 52, f 53, f 54, f 55, f 56, f 57, f 58, f 59, f 60, f 61, f 62, f 63, f 64, f 65, f 66, f 67, f 68, f 69, f 70, f 71, f 72, f 73, f 74, f 75, f 76, f 77, f 78, f 79, f 80, f 81, f 82, f 83, f 84, f 85, f 86, f 87, f 88, f 89, f 90, f 91, f 92, f 93, f 94, f 95, f 96, f 97, f 98, f 99, f 100, f 101, f 102, f 103, f 104, f 105, f 106, f 107, f 108, f 109, f 110, f 111, f 112, f 113, f 114, f 115, f 116, f 117, f 118, f 119, f 120, f 121, f 122, f 123, f 124, f 125, f 126, f 127, f 128, f 129, f 130, f 131, f 132, f 133, f 134, f 135, f 136, f 137, f 138, f 139, f 140, f 141, f 142, f 143, f 144, f 145, f 146, f 147, f 148, f 149, f 150, f 151, f 152, f 153, f 154, f 155, f 156, f 157, f 158, f 159, f 160, f 161, f 162, f 163, f 164, f 165, f 166, f 167, f 168, f 169, f 170, f 171, f 172, f 173, f 174, f 175, f 176, f 177, f 178, f 179]) rfl
                    simp only [g0, g1, g2, g3, g4, g5, g6, g7, g8, g9, g10, g11, g12, g13, g14, g15, g16, g17, g18, g19, g20, g21, g22, g23, g24, g25, g26, g27, g28, g29, g30, g31, g32, g33, g34, g35, g36, g37, g38, g39, g40, g41, g42, g43, g44, g45, g46, g47, g48, g49, g50, g51, g52, g53, g54, g55, g56, g57, g58, g59, g60, g61, g62, g63, g64, g65, g66, g67, g68, g69, g70, g71, g72, g73, g74, g75, g76, g77, g78, g79, g80, g81, g82, g83, g84, g85, g86, g87, g88, g89, g90, g91, g92, g93, g94, g95, g96, g97, g98, g99, g100, g101, g102, g103, g104, g105, g106, g107, g108, g109, g110, g111, g112, g113, g114, g115, g116, g117, g118, g119, g120, g121, g122, g123, g124, g125, g126, g127, g128, g129, g130, g131, g176, g177, g178, g179, g153, g154, g155, g156, g157, g158, g159, g160, g161, g162, g163, g164, g165, g166, g167, g168, g169, g170, g171, g172, g173, g174, g175] at ha
                    clear F hF hf g0 g1 g2 g3 g4 g5 g6 g7 g8 g9 g10 g11 g12 g13 g14 g15 g16 g17 g18 g19 g20 g21 g22 g23 g24 g25 g26 g27 g28 g29 g30 g31 g32 g33 g34 g35 g36 g37 g38 g39 g40 g41 g42 g43 g44 g45 g46 g47 g48 g49 g50 g51 g52 g53 g54 g55 g56 g57 g58 g59 g60 g61 g62 g63 g64 g65 g66 g67 g68 g69 g70 g71 g72 g73 g74 g75 g76 g77 g78 g79 g80 g81 g82 g83 g84 g85 g86 g87 g88 g89 g90 g91 g92 g93 g94 g95 g96 g97 g98 g99 g100 g101 g102 g103 g104 g105 g106 g107 g108 g109 g110 g111 g112 g113 g114 g115 g116 g117 g118 g119 g120 g121 g122 g123 g124 g125 g126 g127 g128 g129 g130 g131 g176 g177 g178 g179 g153 g154 g155 g156 g157 g158 g159 g160 g161 g162 g163 g164 g165 g166 g167 g168 g169 g170 g171 g172 g173 g174 g175
                    subst ha
                    have hJ1 := hJ
                    obtain ⟨jk, jq, jr⟩ := hJ1
                    have HK9 := Lib.hid jk
                    clear hJ jk jq jr
                    go_wp2_with fail
                    go_roundw
                    case rel => exact ⟨k + 1, no + 1, _, _, by have := HNO.out; omega, by omega, by go_num, HK9.out, HFI.out.1, by have := HFI.out.2; omega⟩
                    case measure => simp [intOf]; omega
            have hin : In no := by unfold In; have := HP0.out.2.2.2; omega
            have hcall := pm_readK X hkd.pm hf no hin
            obtain ⟨pq, hpq⟩ : ∃ q, q = pgOf (rdP P0 no) := ⟨_, rfl⟩
            obtain ⟨ez, hez⟩ : ∃ z, z = erOf (rdP P0 no) := ⟨_, rfl⟩
            rw [← hpq, ← hez] at hcall
            have HLT2 := Lib.hid (fun (A : Option Addr) (c : Nat) => lt_more (A := A) (c := c) hlt HNO.out hpq hez)
            clear hpq hez hlt
            have HKD := Lib.hid hkd
            clear hkd
            have HLL := Lib.hid (And.intro hll hel)
            have hl1 : l.length ≤ 1000 := by omega
            have hl2 : el.length ≤ 1000 := by omega
            clear hll hel
            go_wp2_with fail
            (with_reducible refine hcall.mono ?_)
            clear hcall
            rintro e w3 ⟨N, A3, c3, hp3, t3, hN3, rfl, rq⟩
            have hk3 := HKD.out.turn t3 hp3
            have rq3 : RowP w3 (fun b => (S b ∨ N b) ∧ (Value.slice A l.length c).ownBlock ≠ some b ∧ (Value.slice A' el.length c').ownBlock ≠ some b) A3 (strs pq.cells) := rq.wide fun b hb => ⟨Or.inr hb, fun e => by have := (HKD.out.was.block b e).2; have := hN3 b hb; omega, fun e => by have := (HKD.out.ers.block b (by rw [PagerSame.intsV_len]; exact e)).2; have := hN3 b hb; omega⟩
            clear HKD hp3 t3 hN3 rq
            obtain ⟨S', hS'⟩ : ∃ s : Blks, s = (fun b => S b ∨ N b) := ⟨_, rfl⟩
            rw [← hS'] at hk3
            have rq4 : RowP w3 (fun b => S' b ∧ (Value.slice A l.length c).ownBlock ≠ some b ∧ (Value.slice A' el.length c').ownBlock ≠ some b) A3 (strs pq.cells) := by rw [hS']; exact rq3
            clear hS' rq3
            obtain ⟨w4, hw4⟩ : ∃ v, v = w3.alloc (.cells #[.int .i64 pq.kind, .int .i64 pq.no, .int .i64 pq.epoch, .int .i64 pq.link, .slice A3 pq.cells.length c3] 69) := ⟨_, rfl⟩
            have b4 : Below w3.heap.size w3 w4 := by rw [hw4]; exact al' _ _
            have a4 : At w4 w3.heap.size 69 #[.int .i64 pq.kind, .int .i64 pq.no, .int .i64 pq.epoch, .int .i64 pq.link, .slice A3 pq.cells.length c3] := by rw [hw4]; exact heap_alloc_new w3 _
            obtain ⟨w5, hw5⟩ : ∃ v, v = w4.alloc (.cells #[.int .i64 pq.kind, .int .i64 pq.no, .int .i64 pq.epoch, .int .i64 pq.link, .slice A3 pq.cells.length c3] 69) := ⟨_, rfl⟩
            have b5 : Below w4.heap.size w4 w5 := by rw [hw5]; exact al' _ _
            have a5 : At w5 w4.heap.size 69 #[.int .i64 pq.kind, .int .i64 pq.no, .int .i64 pq.epoch, .int .i64 pq.link, .slice A3 pq.cells.length c3] := by rw [hw5]; exact heap_alloc_new w4 _
            have hk5 := (hk3.below X b4).below X b5
            obtain ⟨A2, c2, w6, hrun1, hk6⟩ := hk5.page X (x := (pq, A3, c3)) a5 ((rq4.below b4).below b5) (by omega)
            obtain ⟨w7, hw7⟩ : ∃ v, v = w6.alloc (.cells #[.int .i64 ez] 40) := ⟨_, rfl⟩
            have b7 : Below w6.heap.size w6 w7 := by rw [hw7]; exact al' _ _
            have a7 : At w7 w6.heap.size 40 #[.int .i64 ez] := by rw [hw7]; exact heap_alloc_new w6 _
            obtain ⟨A2', c2', w8, hrun2, hk8⟩ := (hk6.below X b7).err X a7 (by omega)
            have hff := fine_read hf (by omega)
            have HN8 := Lib.hid (And.intro hk8 (And.intro hff (show m + 1000 ≤ 1000000 * 100 + 1000 * (((k + 1 : Nat) : Int)) by omega)))
            have HW4 := Lib.hid hw4
            have HW5 := Lib.hid hw5
            have HW7 := Lib.hid hw7
            have e6 : (l ++ [(pq, A3, c3)]).length = l.length + 1 := by simp
            have e8 : (el ++ [ez]).length = el.length + 1 := by simp
            have HE68 := Lib.hid (And.intro e6 e8)
            clear hw4 hw5 hw7 hk3 rq4 b4 b5 a5 hk5 hk6 b7 a7 hk8 hff hf hmm e6 e8
            obtain ⟨d0, d1, d2, d3, d4⟩ := five_at a4
            go_upto_region 23 with fail
            try rw [← HW4.out]
            go_wp2_with (first | (at_builtin; rw [← HW5.out]; refine FreeMem.wpList_append_run rfl (.tmp 95) (.tmp 97) 30 30 rfl rfl rfl hrun1 ?_; clear hrun1 HW5) | (at_builtin; rw [← HW7.out]; refine FreeMem.wpList_append_run rfl (.tmp 99) (.tmp 101) 67 67 rfl rfl rfl hrun2 ?_))
            go_roundw
            case rel => exact ⟨k + 1, no + 1, _, _, l ++ [(pq, A3, c3)], el ++ [ez], A2, c2, A2', c2', by have := HNO.out; omega, by omega, by rw [HE68.out.1], by rw [HE68.out.2], by go_num, by rw [HE68.out.1, HLL.out.1], by rw [HE68.out.2, HLL.out.2], HLT2.out _ _, HN8.out.1, HN8.out.2.1, HN8.out.2.2⟩
            case measure => simp [intOf]; omega
        obtain ⟨ad, hA, hblk, hc1, hc2⟩ := row_at hr.row k hlt
        subst hA
        have hfr := HP0.out.2.2.1.inv.fr P0.fl[k] (List.getElem_mem hlt)
        have hkey := keyOf_int_mk Tryz.underlying3 (wf_small (x := P0.fl[k].1) (by omega) (by have := HP0.out.2.2.2; omega))
        have htk : ks (P0.fl.take (k + 1)) = ks (P0.fl.take k) ++ [P0.fl[k].1] := by unfold ks; rw [List.take_succ_eq_append_getElem hlt, List.map_append]; rfl
        have hc0 : (ks (P0.fl.take k)).count P0.fl[k].1 = 0 := by
          have hnd := (rise_nodup HP0.out.2.2.1.inv.rise).sublist (show (ks (P0.fl.take (k + 1))).Sublist (ks P0.fl) from (List.take_sublist _ _).map _)
          rw [htk] at hnd
          exact List.count_eq_zero.2 fun q => (List.nodup_append.1 hnd).2.2 _ q _ (List.mem_singleton.2 rfl) rfl
        have hcp := cnt_put (x := P0.fl[k].1) hcnt
        rw [hc0, ← htk] at hcp
        have HCP := Lib.hid hcp
        have hltI : (k : Int) < (P0.fl.length : Int) := by omega
        have HB := Lib.hid (And.intro hpm (And.intro hx (And.intro hr (And.intro hsm hsx))))
        have hmlt := hom.lt
        have hk1 : k ≤ 1000 := by have := few_free HP0.out.2.2.1.inv; have := HP0.out.2.2.2; omega
        clear hcp hc0 htk hcnt hpm hx hr hsm hsx hfr
        generalize P0.fl[k].1 = q1 at *
        generalize P0.fl[k].2 = q2 at *
        go_wp2_with (at_mapUpdate; refine wpList_mapUpdate_own _ rfl _ _ _ 64 rfl 3 3 lawI Tryz.underlying64 _ mb k _ rfl hom (by unfold maxLen; omega) _ _ _ rfl rfl hkey (vl 1) [] (plainElem_int (H := Unit) (a := ((1 : Nat) : Int)) Tryz.underlying3 (wf_small (by omega) (by omega))) ?_; intro w4 om4 hg4)
        have t4 : Turn (fun b => b = mb) wr w4 := Turn.ofGrown hg4 fun j hj _ => (Option.some.inj hj).symm
        have HN := Lib.hid (show L2 M W p d P0 ma mb bx (some ad) (k + 1) w4 from ⟨Plus S wr w4, _, pm_own X HB.out.1 t4 (fun b _ hb => by rw [hb]; exact ⟨HB.out.2.2.2.1, hmbW⟩), om4, HCP.out, (t4.block _ HB.out.2.1.lt fun q => by have : bx = mb := q; omega).trans HB.out.2.1, HB.out.2.2.1.turn t4 fun b hb q => hb q, Or.inl HB.out.2.2.2.1, Or.inl HB.out.2.2.2.2⟩)
        clear hg4 t4 om4
        go_roundw
        case rel => exact ⟨k + 1, by omega, by go_num, HN.out⟩
        case measure => simp [intOf]; omega
end Go.Proofs.YtpidnkfcccboaaaGreat.PagerStays
