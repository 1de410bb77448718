/- The document's disk: Do of a spoiling that is done. -/
import Derived.Test.YtecdindjlfefhaaDiskRefWrite
namespace Go.Proofs.Ytecdindjlfefhaa.DiskRefSpoil
open Go.RowKit Base DiskPlain DiskMem DiskSmall DiskRead DiskGrow DiskWrite DiskSync DiskCrash DiskSpoil DiskCopy DiskLaw DiskDo DiskPlumb DiskTwo DiskGrows DiskSim DiskSyncs DiskRef DiskRefRead DiskRefDo DiskRefDo3 DiskBox DiskLoose DiskRefWrite Go.Maps

theorem spUp_all (p a : Nat) (b : Pg) (l : List (Nat × Pg)) : spUp p a b l l.length = l.map fun x => if x.1 = p then (x.1, splice x.2 a b) else x := by
  simp [spUp]
  intro u v _
  rfl
theorem wd_at {w : World} {A : Option Addr} {n c : Nat} {l : List (Nat × Pg)} {k : Nat} {y : Nat × Pg} (h : Wd w 68 2 A n c (looseStr l)) (hn : k < n) (hy : l[k]? = some y) : ∃ g, A = some ⟨g, 0, none⟩ ∧ w.cell? ⟨g, k * 2, none⟩ = some (.int .i64 (y.1 : Int)) ∧ w.cell? ⟨g, k * 2 + 1, none⟩ = some (.string (tx y.2)) ∧ w.frozen? ⟨g, k * 2 + 1, none⟩ = false := by
  obtain ⟨g, cur, hA, _⟩ := h.form (by omega)
  exact ⟨g, hA, h.cell hA (looseStr_at hy).1, h.cell hA (looseStr_at hy).2, h.frozen hA _⟩
theorem wd_put {w : World} {g n c k p : Nat} {l : List (Nat × Pg)} {y y' : Pg} (h : Wd w 68 2 (some ⟨g, 0, none⟩) n c (looseStr l)) (hy : l[k]? = some (p, y)) : Wd (w.setCell ⟨g, k * 2 + 1, none⟩ (.string (tx y'))) 68 2 (some ⟨g, 0, none⟩) n c (looseStr (l.set k (p, y'))) := by
  rw [← looseStr_set l k p y y' hy]
  exact (World.ownsRow.stored h _ _).1
def SpRel (v : World) (p a : Nat) (b : Pg) (l : List (Nat × Pg)) (n2 : Nat) (A3 : Option Addr) (c3 : Nat) (i : Value) (wr : World) : Prop :=
  ∃ k : Nat, k ≤ n2 ∧ i = .int .i64 k ∧ Below v.heap.size v wr ∧ Wd wr 68 2 A3 n2 c3 (looseStr (spUp p a b l k))
section
variable {w : World} {S : DS} {A1 A2 : Option Addr} {c1 c2 : Nat} {f : Int} {R : Nat → Prop}
set_option maxRecDepth 100000 in
set_option maxHeartbeats 3000000 in
theorem rdo_spoil (h : RefP w S A1 A2 f R) (hok : S.Ok) (hR : ∀ b, R b → b < w.heap.size) (x : Ac) (K : Option Addr) (ck : Nat) (hk : x.kind = 4) (hp : S.has x.page = true) (ha : ¬ (x.at_ < 0 ∨ x.at_ > 256 - (x.s.size : Int))) (hll : S.loose.length ≤ 100000000) :
    Calls Try.prog 13 #[.agg #[.int .i64 S.most, .slice A1 S.last.length c1, .slice A2 S.loose.length c2, .bool S.fused, .int .i64 f], .agg #[.int .i64 x.kind, .int .i64 x.n, .int .i64 x.page, .int .i64 x.at_, .string x.s, .slice K x.kept.length ck]] w (RefPost w R (S.spoilt x.page.toNat x.at_.toNat x.b) 0) := by
  have hln := hok.len4096
  have HOK := Lib.hid hok
  have HRR := Lib.hid hR
  have hp0 : 0 ≤ x.page := (has_iff.1 hp).1
  have hp1 : x.page < (S.last.length : Int) := (has_iff.1 hp).2
  have ha0 : 0 ≤ x.at_ := by omega
  obtain ⟨kd, xn, xp, xa, xs, xk⟩ := x
  dsimp only at hk hp hp0 hp1 ha ha0 ⊢
  subst hk
  obtain ⟨p, rfl⟩ := Int.eq_ofNat_of_zero_le hp0
  obtain ⟨a, rfl⟩ := Int.eq_ofNat_of_zero_le ha0
  have ha1 : a + xs.size ≤ 256 := by omega
  clear hp0 ha0 ha
  have hb0 : Ac.b ⟨4, xn, (p : Int), (a : Int), xs, xk⟩ = xs.data.toList := rfl
  rw [hb0, Int.toNat_natCast, Int.toNat_natCast]
  obtain ⟨b, hbx⟩ : ∃ b, b = xs.data.toList := ⟨_, rfl⟩
  have hbl : b.length = xs.size := by rw [hbx]; simp
  have hxs : tx b = xs := by rw [hbx]; exact tx_of xs
  rw [← hbx]
  have hpl : p < S.last.length := by omega
  obtain ⟨sp, hsp⟩ : ∃ s, S.last[p]? = some s := ⟨_, List.getElem?_eq_getElem hpl⟩
  have hspl : sp.length = 256 := hok.pages _ (List.mem_of_getElem? hsp)
  have hgd : S.last.getD p [] = sp := by rw [List.getD_eq_getElem?_getD, hsp]; rfl
  have HOV := Lib.hid (show ∀ (y : Pg), y.length = 256 → ∀ w : World, Calls Try.prog 30 #[.string (tx y), .int .i64 (a : Int), .string xs] w fun e w' => e = .returned (.string (tx (splice y a b))) ∧ ∃ n, w' = w.drewN n from fun y hy w => by
    have := over_any w y b a (by omega) (by omega)
    rw [hxs] at this
    exact this)
  have HE := Lib.hid (show ∀ (A : Option Addr) (c : Nat) (A3 : Option Addr) (c3 : Nat) (v wz : World), Bx w S.most (S.last.set p (splice sp a b)) S.last.length A c (spUp p a b S.loose S.loose.length) S.loose.length A3 c3 S.fused f R ⟨4, xn, (p : Int), (a : Int), xs, xk⟩ K ck v → Turn (fun b => b = w.heap.size + 1 + 1) v wz →
      RefPost w R (S.spoilt p a b) 0 (.returned (.tuple #[.agg #[.int .i64 S.most, .slice A S.last.length c, .slice A3 S.loose.length c3, .bool S.fused, .int .i64 f], .int .i64 0])) wz from fun A c A3 c3 v wz hb ht => by
    rw [spUp_all] at hb
    exact bx_end (S' := S.spoilt p a b) (by unfold DS.spoilt; rw [hgd]; exact hb) h.fu ht hR 0)
  have HB := Lib.hid (bx_start (c1 := c1) (c2 := c2) (x := ⟨4, xn, (p : Int), (a : Int), xs, xk⟩) (K := K) (ck := ck) h f)
  dsimp only at HB
  have hpd : decide ((p : Int) < (S.last.length : Int)) = true := by simpa using hp1
  have had : decide ((256 : Int) < (a : Int)) = false := by simp; omega
  have had2 : decide ((256 : Int) < (a : Int) + (xs.size : Int)) = false := by simp; omega
  have HSPL := Lib.hid hspl
  obtain ⟨ab, ao, hA1, hab, hc1⟩ := row_at h.la (by simp [lastStr]; omega)
  have l0 := hc1 p (.string (tx sp)) (by simp [lastStr, hsp])
  have hi1 := idx_last (n := S.last.length) (c := c1) hA1 hpl
  have HA1 := Lib.hid hA1
  have HL0 := Lib.hid (And.intro hab l0)
  have HSL := Lib.hid hok.wlen
  have HPL := Lib.hid hpl
  clear h hok hR hb0 hp hxs hbx hspl hgd hsp hA1 hc1 l0 hpl hab
  cases hfu : S.fused with
  | false =>
    rw [hfu] at HE HB
    clear hfu
    obtain ⟨v, hv⟩ : ∃ v, v = (((w.alloc (.cells #[.int .i64 S.most, .slice A1 S.last.length c1, .slice A2 S.loose.length c2, .bool false, .int .i64 f] 31)).alloc (.cells #[.int .i64 4, .int .i64 xn, .int .i64 (p : Int), .int .i64 (a : Int), .string xs, .slice K xk.length ck] 35)).alloc (.cells #[.int .i64 0, .slice none 0 0, .slice none 0 0, .bool false, .int .i64 0] 31)) := ⟨_, rfl⟩
    rw [← hv] at HB
    have HV := Lib.hid hv
    have hvs : v.heap.size = w.heap.size + 1 + 1 + 1 := by rw [hv]; simp
    clear hv
    have HSP := Lib.hid (show ∀ wx, Below v.heap.size v wx → (fun w' : World => w'.cell? ⟨w.heap.size, 1, none⟩ = some (.slice A1 S.last.length c1) ∧ w'.cell? ⟨w.heap.size + 1, 2, none⟩ = some (.int .i64 (p : Int)) ∧ w'.cell? ⟨w.heap.size + 1, 3, none⟩ = some (.int .i64 (a : Int)) ∧ w'.cell? ⟨w.heap.size + 1, 4, none⟩ = some (.string xs) ∧ w'.cell? ⟨ab, ao + p, none⟩ = some (.string (tx sp))) wx from fun wx hb => ⟨(HB.out.step hb).d1, by rw [(HB.out.step hb).x.cell]; rfl, by rw [(HB.out.step hb).x.cell]; rfl, by rw [(HB.out.step hb).x.cell]; rfl, ((HB.out.step hb).below.cell (p := ⟨ab, ao + p, none⟩) HL0.out.1).trans HL0.out.2⟩)
    have hw := Lib.hid (fun wx (hb : Below v.heap.size v wx) => bx_with HB.out (p := p) (y := splice sp a b) HPL.out hln hb)
    clear hvs
    go_enter Try.func13, Try.ntmps13
    go_wp2_with fail
    rw [← HV.out]
    refine wp_region_any (by kernel_rfl) ?_
    change wpAny _ _ _ _ _ _ _ (World.drew _)
    refine Held.any_of_G (S := (fun w' : World => w'.cell? ⟨w.heap.size, 1, none⟩ = some (.slice A1 S.last.length c1) ∧ w'.cell? ⟨w.heap.size + 1, 2, none⟩ = some (.int .i64 (p : Int)) ∧ w'.cell? ⟨w.heap.size + 1, 3, none⟩ = some (.int .i64 (a : Int)) ∧ w'.cell? ⟨w.heap.size + 1, 4, none⟩ = some (.string xs) ∧ w'.cell? ⟨ab, ao + p, none⟩ = some (.string (tx sp)))) (z := 17) _ _ _ _ ?_
    refine Held.G_take (i := 0) (d := 196) (v := ?_) [0, 1, 15, 16, 17] rfl rfl (by kernel_rfl) (by kernel_rfl) (by kernel_rfl) (by kernel_rfl) (fun _ _ _ h => h) (Or.inl ⟨by rfl, ?_⟩) (HSP.out _ (Below.refl _ v).drew) ?_
    rotate_left 1
    · intro w hSw; clear hSw; go_simp <;> with_reducible rfl
    simp only [Act.put, List.setIfInBounds_toArray, List.set_cons_zero, List.set_cons_succ]
    refine Held.G_take (i := 1) (d := 197) (v := ?_) [1, 15, 16, 17] rfl rfl (by kernel_rfl) (by kernel_rfl) (by kernel_rfl) (by kernel_rfl) (fun _ _ _ h => h) (Or.inl ⟨by rfl, ?_⟩) (HSP.out _ (Below.refl _ v).drew) ?_
    rotate_left 1
    · intro w hSw; obtain ⟨h1, h2, h3, h4, h5⟩ := hSw; go_simp <;> with_reducible rfl
    simp only [Act.put, List.setIfInBounds_toArray, List.set_cons_zero, List.set_cons_succ]
    refine Held.G_take (i := 2) (d := 198) (v := ?_) [2, 3, 15, 16, 17] rfl rfl (by kernel_rfl) (by kernel_rfl) (by kernel_rfl) (by kernel_rfl) (fun _ _ _ h => h) (Or.inl ⟨by rfl, ?_⟩) (HSP.out _ (Below.refl _ v).drew) ?_
    rotate_left 1
    · intro w hSw; clear hSw; go_simp <;> with_reducible rfl
    simp only [Act.put, List.setIfInBounds_toArray, List.set_cons_zero, List.set_cons_succ]
    refine Held.G_take (i := 3) (d := 199) (v := ?_) [3, 15, 16, 17] rfl rfl (by kernel_rfl) (by kernel_rfl) (by kernel_rfl) (by kernel_rfl) (fun _ _ _ h => h) (Or.inl ⟨by rfl, ?_⟩) (HSP.out _ (Below.refl _ v).drew) ?_
    rotate_left 1
    · intro w hSw; obtain ⟨h1, h2, h3, h4, h5⟩ := hSw; go_simp <;> with_reducible rfl
    simp only [Act.put, List.setIfInBounds_toArray, List.set_cons_zero, List.set_cons_succ]
    refine Held.G_take (i := 4) (d := 200) (v := ?_) [4, 5, 8, 9, 14, 15, 16, 17] rfl rfl (by kernel_rfl) (by kernel_rfl) (by kernel_rfl) (by kernel_rfl) (fun _ _ _ h => h) (Or.inl ⟨by rfl, ?_⟩) (HSP.out _ (Below.refl _ v).drew) ?_
    rotate_left 1
    · intro w hSw; clear hSw; go_simp <;> with_reducible rfl
    simp only [Act.put, List.setIfInBounds_toArray, List.set_cons_zero, List.set_cons_succ]
    refine Held.G_take (i := 5) (d := 201) (v := ?_) [5, 8, 9, 14, 15, 16, 17] rfl rfl (by kernel_rfl) (by kernel_rfl) (by kernel_rfl) (by kernel_rfl) (fun _ _ _ h => h) (Or.inl ⟨by rfl, ?_⟩) (HSP.out _ (Below.refl _ v).drew) ?_
    rotate_left 1
    · intro w hSw; obtain ⟨h1, h2, h3, h4, h5⟩ := hSw; go_simp <;> with_reducible rfl
    simp only [Act.put, List.setIfInBounds_toArray, List.set_cons_zero, List.set_cons_succ]
    refine Held.G_take (i := 6) (d := 202) (v := ?_) [6, 7, 8, 9, 14, 15, 16, 17] rfl rfl (by kernel_rfl) (by kernel_rfl) (by kernel_rfl) (by kernel_rfl) (fun _ _ _ h => h) (Or.inl ⟨by rfl, ?_⟩) (HSP.out _ (Below.refl _ v).drew) ?_
    rotate_left 1
    · intro w hSw; clear hSw; go_simp <;> with_reducible rfl
    simp only [Act.put, List.setIfInBounds_toArray, List.set_cons_zero, List.set_cons_succ]
    refine Held.G_take (i := 7) (d := 203) (v := ?_) [7, 8, 9, 14, 15, 16, 17] rfl rfl (by kernel_rfl) (by kernel_rfl) (by kernel_rfl) (by kernel_rfl) (fun _ _ _ h => h) (Or.inl ⟨by rfl, ?_⟩) (HSP.out _ (Below.refl _ v).drew) ?_
    rotate_left 1
    · intro w hSw; obtain ⟨h1, h2, h3, h4, h5⟩ := hSw; go_simp <;> with_reducible rfl
    simp only [Act.put, List.setIfInBounds_toArray, List.set_cons_zero, List.set_cons_succ]
    refine Held.G_take (i := 8) (d := 204) (v := ?_) [8, 9, 14, 15, 16, 17] rfl rfl (by kernel_rfl) (by kernel_rfl) (by kernel_rfl) (by kernel_rfl) (fun _ _ _ h => h) (Or.inl ⟨by rfl, ?_⟩) (HSP.out _ (Below.refl _ v).drew) ?_
    rotate_left 1
    · intro w hSw; clear hSw; go_simp <;> with_reducible rfl
    simp only [Act.put, List.setIfInBounds_toArray, List.set_cons_zero, List.set_cons_succ]
    refine Held.G_take (i := 9) (d := 205) (v := ?_) [9, 14, 15, 16, 17] rfl rfl (by kernel_rfl) (by kernel_rfl) (by kernel_rfl) (by kernel_rfl) (fun _ _ _ h => h) (Or.inl ⟨by rfl, ?_⟩) (HSP.out _ (Below.refl _ v).drew) ?_
    rotate_left 1
    · intro w hSw; obtain ⟨h1, h2, h3, h4, h5⟩ := hSw; go_simp <;> with_reducible rfl
    simp only [Act.put, List.setIfInBounds_toArray, List.set_cons_zero, List.set_cons_succ]
    refine Held.G_take (i := 10) (d := 206) (v := ?_) [10, 11, 14, 15, 16, 17] rfl rfl (by kernel_rfl) (by kernel_rfl) (by kernel_rfl) (by kernel_rfl) (fun _ _ _ h => h) (Or.inl ⟨by rfl, ?_⟩) (HSP.out _ (Below.refl _ v).drew) ?_
    rotate_left 1
    · intro w hSw; clear hSw; go_simp <;> with_reducible rfl
    simp only [Act.put, List.setIfInBounds_toArray, List.set_cons_zero, List.set_cons_succ]
    refine Held.G_take (i := 11) (d := 207) (v := ?_) [11, 14, 15, 16, 17] rfl rfl (by kernel_rfl) (by kernel_rfl) (by kernel_rfl) (by kernel_rfl) (fun _ _ _ h => h) (Or.inl ⟨by rfl, ?_⟩) (HSP.out _ (Below.refl _ v).drew) ?_
    rotate_left 1
    · intro w hSw; obtain ⟨h1, h2, h3, h4, h5⟩ := hSw; go_simp <;> with_reducible rfl
    simp only [Act.put, List.setIfInBounds_toArray, List.set_cons_zero, List.set_cons_succ]
    refine Held.G_take (i := 12) (d := 208) (v := ?_) [12, 13, 14, 15, 16, 17] rfl rfl (by kernel_rfl) (by kernel_rfl) (by kernel_rfl) (by kernel_rfl) (fun _ _ _ h => h) (Or.inl ⟨by rfl, ?_⟩) (HSP.out _ (Below.refl _ v).drew) ?_
    rotate_left 1
    · intro w hSw; clear hSw; go_simp <;> with_reducible rfl
    simp only [Act.put, List.setIfInBounds_toArray, List.set_cons_zero, List.set_cons_succ]
    refine Held.G_take (i := 13) (d := 209) (v := ?_) [13, 14, 15, 16, 17] rfl rfl (by kernel_rfl) (by kernel_rfl) (by kernel_rfl) (by kernel_rfl) (fun _ _ _ h => h) (Or.inl ⟨by rfl, ?_⟩) (HSP.out _ (Below.refl _ v).drew) ?_
    rotate_left 1
    · intro w hSw; obtain ⟨h1, h2, h3, h4, h5⟩ := hSw; go_simp <;> with_reducible rfl
    simp only [Act.put, List.setIfInBounds_toArray, List.set_cons_zero, List.set_cons_succ]
    refine Held.G_ready (rs := [14]) (by decide +kernel) (by simp) ?_
    refine Held.G_cons rfl (fun KK hK => ?_) Held.G_nil
    go_simp
    (with_reducible refine (HOV.out sp HSPL.out _).mono ?_)
    rintro e wt ⟨rfl, nq, rfl⟩
    go_wp2_with fail
    refine ⟨(HSP.out _ (by first | exact below_drewN _ _ _ | exact (Below.refl _ _).drew.trans (below_drewN _ _ _))), ?_⟩
    refine Held.G_ready (rs := [15]) (by decide +kernel) (by simp) ?_
    refine Held.G_cons rfl (fun KK hK => ?_) Held.G_nil
    go_simp
    (with_reducible refine (hw.out _ (by first | exact below_drewN _ _ _ | exact (Below.refl _ _).drew.trans (below_drewN _ _ _))).mono ?_)
    rintro e wz ⟨A', c', rfl, fz, cz, HZ⟩
    go_wp2_with fail
    refine ⟨(HSP.out _ HZ.out.1), ?_⟩
    refine Held.G_take (i := 16) (d := 212) (v := ?_) [16, 17] rfl rfl (by kernel_rfl) (by kernel_rfl) (by kernel_rfl) (by kernel_rfl) (fun _ _ _ h => h) (Or.inl ⟨by rfl, ?_⟩) (HSP.out _ HZ.out.1) ?_
    rotate_left 1
    · intro w hSw; clear hSw; go_simp <;> with_reducible rfl
    simp only [Act.put, List.setIfInBounds_toArray, List.set_cons_zero, List.set_cons_succ]
    refine Held.G_ready (rs := [17]) (by decide +kernel) (by simp) ?_
    refine Held.G_last rfl (fun KK hK => ?_) Held.G_nil
    go_simp
    refine hK _ _ ?_
    clear hK KK
    refine Held.G_done (by kernel_rfl) ?_ _
    have hbz := HZ.out.2.1.put1 (n' := S.last.length) HRR.out HZ.out.2.2 (by simp) c'
    clear fz cz HZ
    obtain ⟨v2, hv2⟩ : ∃ v2, v2 = wz.setCell ⟨w.heap.size, 1, none⟩ (.slice A' S.last.length c') := ⟨_, rfl⟩
    rw [← hv2] at hbz
    have HV2 := Lib.hid hv2
    clear hv2
    obtain ⟨A3, c3, v4, hrun, hb4, ⟨_, hw4, _⟩, _, hpl4⟩ := two_copy (g := v2.heap.size) (wx := v2.alloc (.cells #[] 68)) hbz ((Below.refl _ v2).alloc (Nat.le_refl _) _) (Nat.le_refl _) (at_new _ _ _) hll
    have hA3 : ∀ i, A3.map (·.block) = some i → v2.heap.size ≤ i := fun i hi => by rcases hpl4 with e | e <;> (have hi2 := Option.some.inj (e.symm.trans hi); (try simp only [World.size_alloc] at hi2); omega)
    have hz2 : w.heap.size < v2.heap.size := hbz.d.lt
    have b2 : (v2.alloc (.cells #[] 68)).cell? ⟨w.heap.size, 2, none⟩ = some (.slice A2 S.loose.length c2) := (World.cell?_alloc_lt _ _ _ hz2).trans hbz.d2
    have HBZ := Lib.hid hbz
    have HA3 := Lib.hid hA3
    have HR := Lib.hid (show SpRel v2 p a b S.loose S.loose.length A3 c3 (.int .i64 0) v4 from ⟨0, by omega, rfl, hb4, by rw [show spUp p a b S.loose 0 = S.loose by simp [spUp]]; exact hw4⟩)
    clear hbz hb4 hw4 hpl4 hA3 HSP hw HB
    rw [← HV2.out]
    go_wp2_with (at_builtin; refine wpList_append_run rfl (.tmp 213) (.tmp 215) 29 29 rfl (vs := .slice (some ⟨v2.heap.size, 0, none⟩) 0 0) (vx := .slice A2 S.loose.length c2) (by simp [Act.eval]) (by simp [Act.eval]) hrun ?_)
    clear hrun b2 hz2
    go_loopw [13] (fun i wr => SpRel v2 p a b S.loose S.loose.length A3 c3 i wr) (fun i _ => S.loose.length - (intOf i).toNat)
    case atStart => exact HR.out
    case round =>
      clear HR
      obtain ⟨k, hk, rfl, hbw, hw⟩ := hrel
      by_cases hlt : k < S.loose.length
      · obtain ⟨⟨q, y⟩, hy⟩ : ∃ x, S.loose[k]? = some x := ⟨_, List.getElem?_eq_getElem hlt⟩
        have hya := spUp_at (p := p) (a := a) (b := b) hy
        obtain ⟨g3, hg3, y0, y1, y2⟩ := wd_at hw hlt hya
        dsimp only at y0 y1
        have hi3 := idx_loose (n := S.loose.length) (c := c3) hg3 hlt
        have hg3b := HA3.out g3 (by rw [hg3]; rfl)
        have hsw := HBZ.out.step hbw
        have x2 : wr.cell? ⟨w.heap.size + 1, 2, none⟩ = some (.int .i64 (p : Int)) := by rw [hsw.x.cell]; rfl
        have x3 : wr.cell? ⟨w.heap.size + 1, 3, none⟩ = some (.int .i64 (a : Int)) := by rw [hsw.x.cell]; rfl
        have x4 : wr.cell? ⟨w.heap.size + 1, 4, none⟩ = some (.string xs) := by rw [hsw.x.cell]; rfl
        have HYL := Lib.hid (show y.length = 256 from HSL.out _ (List.mem_of_getElem? hy))
        have HG3 := Lib.hid hg3
        have HW := Lib.hid hw
        have HBW := Lib.hid hbw
        have HYA := Lib.hid hya
        have HY := Lib.hid hy
        have HG3B := Lib.hid hg3b
        clear hg3 hw hbw hya hy hsw hg3b
        by_cases hqp : q = p
        · have HQ := Lib.hid hqp
          have hqb : (((q : Nat) : Int) == ((p : Nat) : Int)) = true := by simp [hqp]
          clear hqp
          go_wp2_with fail
          refine wp_region_any (by kernel_rfl) ?_
          change wpAny _ _ _ _ _ _ _ (World.drew _)
          refine Held.any_of_G (S := (fun w' : World => w'.cell? ⟨g3, k * 2, none⟩ = some (.int .i64 (q : Int)) ∧ w'.cell? ⟨w.heap.size + 1, 2, none⟩ = some (.int .i64 (p : Int)))) (z := 7) _ _ _ _ ?_
          refine Held.G_take (i := 0) (d := 223) (v := ?_) [0, 2, 3, 4, 7] rfl rfl (by kernel_rfl) (by kernel_rfl) (by kernel_rfl) (by kernel_rfl) (fun _ _ _ h => h) (Or.inl ⟨by rfl, ?_⟩) (And.intro y0 x2) ?_
          rotate_left 1
          · intro w hSw; clear hSw; go_simp <;> with_reducible rfl
          simp only [Act.put, List.setIfInBounds_toArray, List.set_cons_zero, List.set_cons_succ]
          refine Held.G_take (i := 1) (d := 224) (v := ?_) [1, 2, 3, 4, 7] rfl rfl (by kernel_rfl) (by kernel_rfl) (by kernel_rfl) (by kernel_rfl) (fun _ _ _ h => h) (Or.inl ⟨by rfl, ?_⟩) (And.intro y0 x2) ?_
          rotate_left 1
          · intro w hSw; clear hSw; go_simp <;> with_reducible rfl
          simp only [Act.put, List.setIfInBounds_toArray, List.set_cons_zero, List.set_cons_succ]
          refine Held.G_take (i := 2) (d := 225) (v := ?_) [2, 3, 4, 7] rfl rfl (by kernel_rfl) (by kernel_rfl) (by kernel_rfl) (by kernel_rfl) (fun _ _ _ h => h) (Or.inl ⟨by rfl, ?_⟩) (And.intro y0 x2) ?_
          rotate_left 1
          · intro w hSw; clear hSw; go_simp <;> with_reducible rfl
          simp only [Act.put, List.setIfInBounds_toArray, List.set_cons_zero, List.set_cons_succ]
          refine Held.G_take (i := 3) (d := 226) (v := ?_) [3, 4, 7] rfl rfl (by kernel_rfl) (by kernel_rfl) (by kernel_rfl) (by kernel_rfl) (fun _ _ _ h => h) (Or.inl ⟨by rfl, ?_⟩) (And.intro y0 x2) ?_
          rotate_left 1
          · intro w hSw; clear hSw; go_simp <;> with_reducible rfl
          simp only [Act.put, List.setIfInBounds_toArray, List.set_cons_zero, List.set_cons_succ]
          refine Held.G_take (i := 4) (d := 227) (v := ?_) [4, 7] rfl rfl (by kernel_rfl) (by kernel_rfl) (by kernel_rfl) (by kernel_rfl) (fun _ _ _ h => h) (Or.inl ⟨by rfl, ?_⟩) (And.intro y0 x2) ?_
          rotate_left 1
          · intro w hSw; obtain ⟨h1, h2⟩ := hSw; go_simp <;> with_reducible rfl
          simp only [Act.put, List.setIfInBounds_toArray, List.set_cons_zero, List.set_cons_succ]
          refine Held.G_take (i := 5) (d := 228) (v := ?_) [5, 6, 7] rfl rfl (by kernel_rfl) (by kernel_rfl) (by kernel_rfl) (by kernel_rfl) (fun _ _ _ h => h) (Or.inl ⟨by rfl, ?_⟩) (And.intro y0 x2) ?_
          rotate_left 1
          · intro w hSw; clear hSw; go_simp <;> with_reducible rfl
          simp only [Act.put, List.setIfInBounds_toArray, List.set_cons_zero, List.set_cons_succ]
          refine Held.G_take (i := 6) (d := 229) (v := ?_) [6, 7] rfl rfl (by kernel_rfl) (by kernel_rfl) (by kernel_rfl) (by kernel_rfl) (fun _ _ _ h => h) (Or.inl ⟨by rfl, ?_⟩) (And.intro y0 x2) ?_
          rotate_left 1
          · intro w hSw; obtain ⟨h1, h2⟩ := hSw; go_simp <;> with_reducible rfl
          simp only [Act.put, List.setIfInBounds_toArray, List.set_cons_zero, List.set_cons_succ]
          refine Held.G_ready (rs := [7]) (by decide +kernel) (by simp) ?_
          refine Held.G_last rfl (fun KK hK => ?_) Held.G_nil
          go_simp
          refine hK _ _ ?_
          clear hK KK
          refine Held.G_done (by kernel_rfl) ?_ _
          go_wp2_with fail
          refine wp_region_any (by kernel_rfl) ?_
          change wpAny _ _ _ _ _ _ _ (World.drew _)
          refine Held.any_of_G (S := (fun w' : World => w'.cell? ⟨g3, k * 2 + 1, none⟩ = some (.string (tx y)) ∧ w'.cell? ⟨w.heap.size + 1, 3, none⟩ = some (.int .i64 (a : Int)) ∧ w'.cell? ⟨w.heap.size + 1, 4, none⟩ = some (.string xs))) (z := 14) _ _ _ _ ?_
          refine Held.G_take (i := 0) (d := 231) (v := ?_) [0, 12, 13, 14] rfl rfl (by kernel_rfl) (by kernel_rfl) (by kernel_rfl) (by kernel_rfl) (fun _ _ _ h => h) (Or.inl ⟨by rfl, ?_⟩) (And.intro y1 (And.intro x3 x4)) ?_
          rotate_left 1
          · intro w hSw; clear hSw; go_simp <;> with_reducible rfl
          simp only [Act.put, List.setIfInBounds_toArray, List.set_cons_zero, List.set_cons_succ]
          refine Held.G_take (i := 1) (d := 232) (v := ?_) [1, 12, 13, 14] rfl rfl (by kernel_rfl) (by kernel_rfl) (by kernel_rfl) (by kernel_rfl) (fun _ _ _ h => h) (Or.inl ⟨by rfl, ?_⟩) (And.intro y1 (And.intro x3 x4)) ?_
          rotate_left 1
          · intro w hSw; clear hSw; go_simp <;> with_reducible rfl
          simp only [Act.put, List.setIfInBounds_toArray, List.set_cons_zero, List.set_cons_succ]
          refine Held.G_take (i := 2) (d := 233) (v := ?_) [2, 4, 5, 6, 11, 12, 13, 14] rfl rfl (by kernel_rfl) (by kernel_rfl) (by kernel_rfl) (by kernel_rfl) (fun _ _ _ h => h) (Or.inl ⟨by rfl, ?_⟩) (And.intro y1 (And.intro x3 x4)) ?_
          rotate_left 1
          · intro w hSw; clear hSw; go_simp <;> with_reducible rfl
          simp only [Act.put, List.setIfInBounds_toArray, List.set_cons_zero, List.set_cons_succ]
          refine Held.G_take (i := 3) (d := 234) (v := ?_) [3, 4, 5, 6, 11, 12, 13, 14] rfl rfl (by kernel_rfl) (by kernel_rfl) (by kernel_rfl) (by kernel_rfl) (fun _ _ _ h => h) (Or.inl ⟨by rfl, ?_⟩) (And.intro y1 (And.intro x3 x4)) ?_
          rotate_left 1
          · intro w hSw; clear hSw; go_simp <;> with_reducible rfl
          simp only [Act.put, List.setIfInBounds_toArray, List.set_cons_zero, List.set_cons_succ]
          refine Held.G_take (i := 4) (d := 235) (v := ?_) [4, 5, 6, 11, 12, 13, 14] rfl rfl (by kernel_rfl) (by kernel_rfl) (by kernel_rfl) (by kernel_rfl) (fun _ _ _ h => h) (Or.inl ⟨by rfl, ?_⟩) (And.intro y1 (And.intro x3 x4)) ?_
          rotate_left 1
          · intro w hSw; clear hSw; go_simp <;> with_reducible rfl
          simp only [Act.put, List.setIfInBounds_toArray, List.set_cons_zero, List.set_cons_succ]
          refine Held.G_take (i := 5) (d := 236) (v := ?_) [5, 6, 11, 12, 13, 14] rfl rfl (by kernel_rfl) (by kernel_rfl) (by kernel_rfl) (by kernel_rfl) (fun _ _ _ h => h) (Or.inl ⟨by rfl, ?_⟩) (And.intro y1 (And.intro x3 x4)) ?_
          rotate_left 1
          · intro w hSw; clear hSw; go_simp <;> with_reducible rfl
          simp only [Act.put, List.setIfInBounds_toArray, List.set_cons_zero, List.set_cons_succ]
          refine Held.G_take (i := 6) (d := 237) (v := ?_) [6, 11, 12, 13, 14] rfl rfl (by kernel_rfl) (by kernel_rfl) (by kernel_rfl) (by kernel_rfl) (fun _ _ _ h => h) (Or.inl ⟨by rfl, ?_⟩) (And.intro y1 (And.intro x3 x4)) ?_
          rotate_left 1
          · intro w hSw; obtain ⟨h1, h2, h3⟩ := hSw; go_simp <;> with_reducible rfl
          simp only [Act.put, List.setIfInBounds_toArray, List.set_cons_zero, List.set_cons_succ]
          refine Held.G_take (i := 7) (d := 238) (v := ?_) [7, 8, 11, 12, 13, 14] rfl rfl (by kernel_rfl) (by kernel_rfl) (by kernel_rfl) (by kernel_rfl) (fun _ _ _ h => h) (Or.inl ⟨by rfl, ?_⟩) (And.intro y1 (And.intro x3 x4)) ?_
          rotate_left 1
          · intro w hSw; clear hSw; go_simp <;> with_reducible rfl
          simp only [Act.put, List.setIfInBounds_toArray, List.set_cons_zero, List.set_cons_succ]
          refine Held.G_take (i := 8) (d := 239) (v := ?_) [8, 11, 12, 13, 14] rfl rfl (by kernel_rfl) (by kernel_rfl) (by kernel_rfl) (by kernel_rfl) (fun _ _ _ h => h) (Or.inl ⟨by rfl, ?_⟩) (And.intro y1 (And.intro x3 x4)) ?_
          rotate_left 1
          · intro w hSw; obtain ⟨h1, h2, h3⟩ := hSw; go_simp <;> with_reducible rfl
          simp only [Act.put, List.setIfInBounds_toArray, List.set_cons_zero, List.set_cons_succ]
          refine Held.G_take (i := 9) (d := 240) (v := ?_) [9, 10, 11, 12, 13, 14] rfl rfl (by kernel_rfl) (by kernel_rfl) (by kernel_rfl) (by kernel_rfl) (fun _ _ _ h => h) (Or.inl ⟨by rfl, ?_⟩) (And.intro y1 (And.intro x3 x4)) ?_
          rotate_left 1
          · intro w hSw; clear hSw; go_simp <;> with_reducible rfl
          simp only [Act.put, List.setIfInBounds_toArray, List.set_cons_zero, List.set_cons_succ]
          refine Held.G_take (i := 10) (d := 241) (v := ?_) [10, 11, 12, 13, 14] rfl rfl (by kernel_rfl) (by kernel_rfl) (by kernel_rfl) (by kernel_rfl) (fun _ _ _ h => h) (Or.inl ⟨by rfl, ?_⟩) (And.intro y1 (And.intro x3 x4)) ?_
          rotate_left 1
          · intro w hSw; obtain ⟨h1, h2, h3⟩ := hSw; go_simp <;> with_reducible rfl
          simp only [Act.put, List.setIfInBounds_toArray, List.set_cons_zero, List.set_cons_succ]
          refine Held.G_ready (rs := [11]) (by decide +kernel) (by simp) ?_
          refine Held.G_cons rfl (fun KK hK => ?_) Held.G_nil
          go_simp
          (with_reducible refine (HOV.out y HYL.out _).mono ?_)
          rintro e wt ⟨rfl, nq, rfl⟩
          go_wp2_with fail
          refine ⟨(And.intro y1 (And.intro x3 x4)), ?_⟩
          refine Held.G_take (i := 12) (d := 243) (v := ?_) [12, 13, 14] rfl rfl (by kernel_rfl) (by kernel_rfl) (by kernel_rfl) (by kernel_rfl) (fun _ _ _ h => h) (Or.inl ⟨by rfl, ?_⟩) (And.intro y1 (And.intro x3 x4)) ?_
          rotate_left 1
          · intro w hSw; clear hSw; go_simp <;> with_reducible rfl
          simp only [Act.put, List.setIfInBounds_toArray, List.set_cons_zero, List.set_cons_succ]
          refine Held.G_take (i := 13) (d := 244) (v := ?_) [13, 14] rfl rfl (by kernel_rfl) (by kernel_rfl) (by kernel_rfl) (by kernel_rfl) (fun _ _ _ h => h) (Or.inl ⟨by rfl, ?_⟩) (And.intro y1 (And.intro x3 x4)) ?_
          rotate_left 1
          · intro w hSw; clear hSw; go_simp <;> with_reducible rfl
          simp only [Act.put, List.setIfInBounds_toArray, List.set_cons_zero, List.set_cons_succ]
          refine Held.G_ready (rs := [14]) (by decide +kernel) (by simp) ?_
          refine Held.G_last rfl (fun KK hK => ?_) Held.G_nil
          go_simp
          refine hK _ _ ?_
          clear hK KK
          refine Held.G_done (by kernel_rfl) ?_ _
          go_wp2_with fail
          go_roundw
          case rel =>
            have hg := HG3.out
            have hw := HW.out
            rw [hg] at hw
            refine ⟨k + 1, by omega, by go_num, (HBW.out.trans (below_drewN wr _ _)).setCell HG3B.out _, ?_⟩
            rw [spUp_succ HY.out, DiskLoose.spf, if_pos HQ.out, hg]
            exact wd_put (by exact hw) HYA.out
          case measure => simp [intOf]; omega
        · have HQ := Lib.hid hqp
          have hqb : (((q : Nat) : Int) == ((p : Nat) : Int)) = false := beq_eq_false_iff_ne.2 (by omega)
          clear hqp
          go_wp2_with fail
          refine wp_region_any (by kernel_rfl) ?_
          change wpAny _ _ _ _ _ _ _ (World.drew _)
          refine Held.any_of_G (S := (fun w' : World => w'.cell? ⟨g3, k * 2, none⟩ = some (.int .i64 (q : Int)) ∧ w'.cell? ⟨w.heap.size + 1, 2, none⟩ = some (.int .i64 (p : Int)))) (z := 7) _ _ _ _ ?_
          refine Held.G_take (i := 0) (d := 223) (v := ?_) [0, 2, 3, 4, 7] rfl rfl (by kernel_rfl) (by kernel_rfl) (by kernel_rfl) (by kernel_rfl) (fun _ _ _ h => h) (Or.inl ⟨by rfl, ?_⟩) (And.intro y0 x2) ?_
          rotate_left 1
          · intro w hSw; clear hSw; go_simp <;> with_reducible rfl
          simp only [Act.put, List.setIfInBounds_toArray, List.set_cons_zero, List.set_cons_succ]
          refine Held.G_take (i := 1) (d := 224) (v := ?_) [1, 2, 3, 4, 7] rfl rfl (by kernel_rfl) (by kernel_rfl) (by kernel_rfl) (by kernel_rfl) (fun _ _ _ h => h) (Or.inl ⟨by rfl, ?_⟩) (And.intro y0 x2) ?_
          rotate_left 1
          · intro w hSw; clear hSw; go_simp <;> with_reducible rfl
          simp only [Act.put, List.setIfInBounds_toArray, List.set_cons_zero, List.set_cons_succ]
          refine Held.G_take (i := 2) (d := 225) (v := ?_) [2, 3, 4, 7] rfl rfl (by kernel_rfl) (by kernel_rfl) (by kernel_rfl) (by kernel_rfl) (fun _ _ _ h => h) (Or.inl ⟨by rfl, ?_⟩) (And.intro y0 x2) ?_
          rotate_left 1
          · intro w hSw; clear hSw; go_simp <;> with_reducible rfl
          simp only [Act.put, List.setIfInBounds_toArray, List.set_cons_zero, List.set_cons_succ]
          refine Held.G_take (i := 3) (d := 226) (v := ?_) [3, 4, 7] rfl rfl (by kernel_rfl) (by kernel_rfl) (by kernel_rfl) (by kernel_rfl) (fun _ _ _ h => h) (Or.inl ⟨by rfl, ?_⟩) (And.intro y0 x2) ?_
          rotate_left 1
          · intro w hSw; clear hSw; go_simp <;> with_reducible rfl
          simp only [Act.put, List.setIfInBounds_toArray, List.set_cons_zero, List.set_cons_succ]
          refine Held.G_take (i := 4) (d := 227) (v := ?_) [4, 7] rfl rfl (by kernel_rfl) (by kernel_rfl) (by kernel_rfl) (by kernel_rfl) (fun _ _ _ h => h) (Or.inl ⟨by rfl, ?_⟩) (And.intro y0 x2) ?_
          rotate_left 1
          · intro w hSw; obtain ⟨h1, h2⟩ := hSw; go_simp <;> with_reducible rfl
          simp only [Act.put, List.setIfInBounds_toArray, List.set_cons_zero, List.set_cons_succ]
          refine Held.G_take (i := 5) (d := 228) (v := ?_) [5, 6, 7] rfl rfl (by kernel_rfl) (by kernel_rfl) (by kernel_rfl) (by kernel_rfl) (fun _ _ _ h => h) (Or.inl ⟨by rfl, ?_⟩) (And.intro y0 x2) ?_
          rotate_left 1
          · intro w hSw; clear hSw; go_simp <;> with_reducible rfl
          simp only [Act.put, List.setIfInBounds_toArray, List.set_cons_zero, List.set_cons_succ]
          refine Held.G_take (i := 6) (d := 229) (v := ?_) [6, 7] rfl rfl (by kernel_rfl) (by kernel_rfl) (by kernel_rfl) (by kernel_rfl) (fun _ _ _ h => h) (Or.inl ⟨by rfl, ?_⟩) (And.intro y0 x2) ?_
          rotate_left 1
          · intro w hSw; obtain ⟨h1, h2⟩ := hSw; go_simp <;> with_reducible rfl
          simp only [Act.put, List.setIfInBounds_toArray, List.set_cons_zero, List.set_cons_succ]
          refine Held.G_ready (rs := [7]) (by decide +kernel) (by simp) ?_
          refine Held.G_last rfl (fun KK hK => ?_) Held.G_nil
          go_simp
          refine hK _ _ ?_
          clear hK KK
          refine Held.G_done (by kernel_rfl) ?_ _
          go_wp2_with fail
          go_roundw
          case rel => exact ⟨k + 1, by omega, by go_num, HBW.out.drew, by rw [spUp_same HY.out HQ.out]; exact HW.out⟩
          case measure => simp [intOf]; omega
      · obtain rfl : k = S.loose.length := by omega
        have hs := HBZ.out.step hbw
        have b0 := hs.d0
        have b1 := hs.d1
        have b2 := hs.d2
        have b3 := hs.d3
        have b4 := hs.d4
        have f2 := hs.d.frozen 2
        have r0 := hs.r.cell 0
        have r1 := hs.r.cell 1
        have r2 := hs.r.cell 2
        have r3 := hs.r.cell 3
        have r4 := hs.r.cell 4
        have g0 := hs.r.frozen 0
        have g1 := hs.r.frozen 1
        have g2 := hs.r.frozen 2
        have g3 := hs.r.frozen 3
        have g4 := hs.r.frozen 4
        have HX := Lib.hid (hs.put2 (n3 := S.loose.length) HRR.out (wd_rowR hw (fun i hi => .inr (by have := HA3.out i hi; have := HBZ.out.r.lt; omega))) (spUp_len _ _ _ _ _) c3)
        clear hs hw hbw hlt
        go_wp2_with fail
        exact bodyPost_ret (v := .tuple #[.agg #[.int .i64 S.most, .slice A' S.last.length c', .slice A3 S.loose.length c3, .bool false, .int .i64 f], .int .i64 0]) (by simp [results, Try.results13, go_sem, r0, r1, r2, r3, r4]) rfl (HE.out A' c' A3 c3 _ _ HX.out (turn5 _ _ _ _ _ _ _))
  | true =>
    rw [hfu] at HE HB
    clear hfu
    obtain ⟨v, hv⟩ : ∃ v, v = (((w.alloc (.cells #[.int .i64 S.most, .slice A1 S.last.length c1, .slice A2 S.loose.length c2, .bool true, .int .i64 f] 31)).alloc (.cells #[.int .i64 4, .int .i64 xn, .int .i64 (p : Int), .int .i64 (a : Int), .string xs, .slice K xk.length ck] 35)).alloc (.cells #[.int .i64 0, .slice none 0 0, .slice none 0 0, .bool false, .int .i64 0] 31)) := ⟨_, rfl⟩
    rw [← hv] at HB
    have HV := Lib.hid hv
    have hvs : v.heap.size = w.heap.size + 1 + 1 + 1 := by rw [hv]; simp
    clear hv
    have HSP := Lib.hid (show ∀ wx, Below v.heap.size v wx → (fun w' : World => w'.cell? ⟨w.heap.size, 1, none⟩ = some (.slice A1 S.last.length c1) ∧ w'.cell? ⟨w.heap.size + 1, 2, none⟩ = some (.int .i64 (p : Int)) ∧ w'.cell? ⟨w.heap.size + 1, 3, none⟩ = some (.int .i64 (a : Int)) ∧ w'.cell? ⟨w.heap.size + 1, 4, none⟩ = some (.string xs) ∧ w'.cell? ⟨ab, ao + p, none⟩ = some (.string (tx sp))) wx from fun wx hb => ⟨(HB.out.step hb).d1, by rw [(HB.out.step hb).x.cell]; rfl, by rw [(HB.out.step hb).x.cell]; rfl, by rw [(HB.out.step hb).x.cell]; rfl, ((HB.out.step hb).below.cell (p := ⟨ab, ao + p, none⟩) HL0.out.1).trans HL0.out.2⟩)
    have hw := Lib.hid (fun wx (hb : Below v.heap.size v wx) => bx_with HB.out (p := p) (y := splice sp a b) HPL.out hln hb)
    clear hvs
    go_enter Try.func13, Try.ntmps13
    go_wp2_with fail
    rw [← HV.out]
    refine wp_region_any (by kernel_rfl) ?_
    change wpAny _ _ _ _ _ _ _ (World.drew _)
    refine Held.any_of_G (S := (fun w' : World => w'.cell? ⟨w.heap.size, 1, none⟩ = some (.slice A1 S.last.length c1) ∧ w'.cell? ⟨w.heap.size + 1, 2, none⟩ = some (.int .i64 (p : Int)) ∧ w'.cell? ⟨w.heap.size + 1, 3, none⟩ = some (.int .i64 (a : Int)) ∧ w'.cell? ⟨w.heap.size + 1, 4, none⟩ = some (.string xs) ∧ w'.cell? ⟨ab, ao + p, none⟩ = some (.string (tx sp)))) (z := 17) _ _ _ _ ?_
    refine Held.G_take (i := 0) (d := 196) (v := ?_) [0, 1, 15, 16, 17] rfl rfl (by kernel_rfl) (by kernel_rfl) (by kernel_rfl) (by kernel_rfl) (fun _ _ _ h => h) (Or.inl ⟨by rfl, ?_⟩) (HSP.out _ (Below.refl _ v).drew) ?_
    rotate_left 1
    · intro w hSw; clear hSw; go_simp <;> with_reducible rfl
    simp only [Act.put, List.setIfInBounds_toArray, List.set_cons_zero, List.set_cons_succ]
    refine Held.G_take (i := 1) (d := 197) (v := ?_) [1, 15, 16, 17] rfl rfl (by kernel_rfl) (by kernel_rfl) (by kernel_rfl) (by kernel_rfl) (fun _ _ _ h => h) (Or.inl ⟨by rfl, ?_⟩) (HSP.out _ (Below.refl _ v).drew) ?_
    rotate_left 1
    · intro w hSw; obtain ⟨h1, h2, h3, h4, h5⟩ := hSw; go_simp <;> with_reducible rfl
    simp only [Act.put, List.setIfInBounds_toArray, List.set_cons_zero, List.set_cons_succ]
    refine Held.G_take (i := 2) (d := 198) (v := ?_) [2, 3, 15, 16, 17] rfl rfl (by kernel_rfl) (by kernel_rfl) (by kernel_rfl) (by kernel_rfl) (fun _ _ _ h => h) (Or.inl ⟨by rfl, ?_⟩) (HSP.out _ (Below.refl _ v).drew) ?_
    rotate_left 1
    · intro w hSw; clear hSw; go_simp <;> with_reducible rfl
    simp only [Act.put, List.setIfInBounds_toArray, List.set_cons_zero, List.set_cons_succ]
    refine Held.G_take (i := 3) (d := 199) (v := ?_) [3, 15, 16, 17] rfl rfl (by kernel_rfl) (by kernel_rfl) (by kernel_rfl) (by kernel_rfl) (fun _ _ _ h => h) (Or.inl ⟨by rfl, ?_⟩) (HSP.out _ (Below.refl _ v).drew) ?_
    rotate_left 1
    · intro w hSw; obtain ⟨h1, h2, h3, h4, h5⟩ := hSw; go_simp <;> with_reducible rfl
    simp only [Act.put, List.setIfInBounds_toArray, List.set_cons_zero, List.set_cons_succ]
    refine Held.G_take (i := 4) (d := 200) (v := ?_) [4, 5, 8, 9, 14, 15, 16, 17] rfl rfl (by kernel_rfl) (by kernel_rfl) (by kernel_rfl) (by kernel_rfl) (fun _ _ _ h => h) (Or.inl ⟨by rfl, ?_⟩) (HSP.out _ (Below.refl _ v).drew) ?_
    rotate_left 1
    · intro w hSw; clear hSw; go_simp <;> with_reducible rfl
    simp only [Act.put, List.setIfInBounds_toArray, List.set_cons_zero, List.set_cons_succ]
    refine Held.G_take (i := 5) (d := 201) (v := ?_) [5, 8, 9, 14, 15, 16, 17] rfl rfl (by kernel_rfl) (by kernel_rfl) (by kernel_rfl) (by kernel_rfl) (fun _ _ _ h => h) (Or.inl ⟨by rfl, ?_⟩) (HSP.out _ (Below.refl _ v).drew) ?_
    rotate_left 1
    · intro w hSw; obtain ⟨h1, h2, h3, h4, h5⟩ := hSw; go_simp <;> with_reducible rfl
    simp only [Act.put, List.setIfInBounds_toArray, List.set_cons_zero, List.set_cons_succ]
    refine Held.G_take (i := 6) (d := 202) (v := ?_) [6, 7, 8, 9, 14, 15, 16, 17] rfl rfl (by kernel_rfl) (by kernel_rfl) (by kernel_rfl) (by kernel_rfl) (fun _ _ _ h => h) (Or.inl ⟨by rfl, ?_⟩) (HSP.out _ (Below.refl _ v).drew) ?_
    rotate_left 1
    · intro w hSw; clear hSw; go_simp <;> with_reducible rfl
    simp only [Act.put, List.setIfInBounds_toArray, List.set_cons_zero, List.set_cons_succ]
    refine Held.G_take (i := 7) (d := 203) (v := ?_) [7, 8, 9, 14, 15, 16, 17] rfl rfl (by kernel_rfl) (by kernel_rfl) (by kernel_rfl) (by kernel_rfl) (fun _ _ _ h => h) (Or.inl ⟨by rfl, ?_⟩) (HSP.out _ (Below.refl _ v).drew) ?_
    rotate_left 1
    · intro w hSw; obtain ⟨h1, h2, h3, h4, h5⟩ := hSw; go_simp <;> with_reducible rfl
    simp only [Act.put, List.setIfInBounds_toArray, List.set_cons_zero, List.set_cons_succ]
    refine Held.G_take (i := 8) (d := 204) (v := ?_) [8, 9, 14, 15, 16, 17] rfl rfl (by kernel_rfl) (by kernel_rfl) (by kernel_rfl) (by kernel_rfl) (fun _ _ _ h => h) (Or.inl ⟨by rfl, ?_⟩) (HSP.out _ (Below.refl _ v).drew) ?_
    rotate_left 1
    · intro w hSw; clear hSw; go_simp <;> with_reducible rfl
    simp only [Act.put, List.setIfInBounds_toArray, List.set_cons_zero, List.set_cons_succ]
    refine Held.G_take (i := 9) (d := 205) (v := ?_) [9, 14, 15, 16, 17] rfl rfl (by kernel_rfl) (by kernel_rfl) (by kernel_rfl) (by kernel_rfl) (fun _ _ _ h => h) (Or.inl ⟨by rfl, ?_⟩) (HSP.out _ (Below.refl _ v).drew) ?_
    rotate_left 1
    · intro w hSw; obtain ⟨h1, h2, h3, h4, h5⟩ := hSw; go_simp <;> with_reducible rfl
    simp only [Act.put, List.setIfInBounds_toArray, List.set_cons_zero, List.set_cons_succ]
    refine Held.G_take (i := 10) (d := 206) (v := ?_) [10, 11, 14, 15, 16, 17] rfl rfl (by kernel_rfl) (by kernel_rfl) (by kernel_rfl) (by kernel_rfl) (fun _ _ _ h => h) (Or.inl ⟨by rfl, ?_⟩) (HSP.out _ (Below.refl _ v).drew) ?_
    rotate_left 1
    · intro w hSw; clear hSw; go_simp <;> with_reducible rfl
    simp only [Act.put, List.setIfInBounds_toArray, List.set_cons_zero, List.set_cons_succ]
    refine Held.G_take (i := 11) (d := 207) (v := ?_) [11, 14, 15, 16, 17] rfl rfl (by kernel_rfl) (by kernel_rfl) (by kernel_rfl) (by kernel_rfl) (fun _ _ _ h => h) (Or.inl ⟨by rfl, ?_⟩) (HSP.out _ (Below.refl _ v).drew) ?_
    rotate_left 1
    · intro w hSw; obtain ⟨h1, h2, h3, h4, h5⟩ := hSw; go_simp <;> with_reducible rfl
    simp only [Act.put, List.setIfInBounds_toArray, List.set_cons_zero, List.set_cons_succ]
    refine Held.G_take (i := 12) (d := 208) (v := ?_) [12, 13, 14, 15, 16, 17] rfl rfl (by kernel_rfl) (by kernel_rfl) (by kernel_rfl) (by kernel_rfl) (fun _ _ _ h => h) (Or.inl ⟨by rfl, ?_⟩) (HSP.out _ (Below.refl _ v).drew) ?_
    rotate_left 1
    · intro w hSw; clear hSw; go_simp <;> with_reducible rfl
    simp only [Act.put, List.setIfInBounds_toArray, List.set_cons_zero, List.set_cons_succ]
    refine Held.G_take (i := 13) (d := 209) (v := ?_) [13, 14, 15, 16, 17] rfl rfl (by kernel_rfl) (by kernel_rfl) (by kernel_rfl) (by kernel_rfl) (fun _ _ _ h => h) (Or.inl ⟨by rfl, ?_⟩) (HSP.out _ (Below.refl _ v).drew) ?_
    rotate_left 1
    · intro w hSw; obtain ⟨h1, h2, h3, h4, h5⟩ := hSw; go_simp <;> with_reducible rfl
    simp only [Act.put, List.setIfInBounds_toArray, List.set_cons_zero, List.set_cons_succ]
    refine Held.G_ready (rs := [14]) (by decide +kernel) (by simp) ?_
    refine Held.G_cons rfl (fun KK hK => ?_) Held.G_nil
    go_simp
    (with_reducible refine (HOV.out sp HSPL.out _).mono ?_)
    rintro e wt ⟨rfl, nq, rfl⟩
    go_wp2_with fail
    refine ⟨(HSP.out _ (by first | exact below_drewN _ _ _ | exact (Below.refl _ _).drew.trans (below_drewN _ _ _))), ?_⟩
    refine Held.G_ready (rs := [15]) (by decide +kernel) (by simp) ?_
    refine Held.G_cons rfl (fun KK hK => ?_) Held.G_nil
    go_simp
    (with_reducible refine (hw.out _ (by first | exact below_drewN _ _ _ | exact (Below.refl _ _).drew.trans (below_drewN _ _ _))).mono ?_)
    rintro e wz ⟨A', c', rfl, fz, cz, HZ⟩
    go_wp2_with fail
    refine ⟨(HSP.out _ HZ.out.1), ?_⟩
    refine Held.G_take (i := 16) (d := 212) (v := ?_) [16, 17] rfl rfl (by kernel_rfl) (by kernel_rfl) (by kernel_rfl) (by kernel_rfl) (fun _ _ _ h => h) (Or.inl ⟨by rfl, ?_⟩) (HSP.out _ HZ.out.1) ?_
    rotate_left 1
    · intro w hSw; clear hSw; go_simp <;> with_reducible rfl
    simp only [Act.put, List.setIfInBounds_toArray, List.set_cons_zero, List.set_cons_succ]
    refine Held.G_ready (rs := [17]) (by decide +kernel) (by simp) ?_
    refine Held.G_last rfl (fun KK hK => ?_) Held.G_nil
    go_simp
    refine hK _ _ ?_
    clear hK KK
    refine Held.G_done (by kernel_rfl) ?_ _
    have hbz := HZ.out.2.1.put1 (n' := S.last.length) HRR.out HZ.out.2.2 (by simp) c'
    clear fz cz HZ
    obtain ⟨v2, hv2⟩ : ∃ v2, v2 = wz.setCell ⟨w.heap.size, 1, none⟩ (.slice A' S.last.length c') := ⟨_, rfl⟩
    rw [← hv2] at hbz
    have HV2 := Lib.hid hv2
    clear hv2
    obtain ⟨A3, c3, v4, hrun, hb4, ⟨_, hw4, _⟩, _, hpl4⟩ := two_copy (g := v2.heap.size) (wx := v2.alloc (.cells #[] 68)) hbz ((Below.refl _ v2).alloc (Nat.le_refl _) _) (Nat.le_refl _) (at_new _ _ _) hll
    have hA3 : ∀ i, A3.map (·.block) = some i → v2.heap.size ≤ i := fun i hi => by rcases hpl4 with e | e <;> (have hi2 := Option.some.inj (e.symm.trans hi); (try simp only [World.size_alloc] at hi2); omega)
    have hz2 : w.heap.size < v2.heap.size := hbz.d.lt
    have b2 : (v2.alloc (.cells #[] 68)).cell? ⟨w.heap.size, 2, none⟩ = some (.slice A2 S.loose.length c2) := (World.cell?_alloc_lt _ _ _ hz2).trans hbz.d2
    have HBZ := Lib.hid hbz
    have HA3 := Lib.hid hA3
    have HR := Lib.hid (show SpRel v2 p a b S.loose S.loose.length A3 c3 (.int .i64 0) v4 from ⟨0, by omega, rfl, hb4, by rw [show spUp p a b S.loose 0 = S.loose by simp [spUp]]; exact hw4⟩)
    clear hbz hb4 hw4 hpl4 hA3 HSP hw HB
    rw [← HV2.out]
    go_wp2_with (at_builtin; refine wpList_append_run rfl (.tmp 213) (.tmp 215) 29 29 rfl (vs := .slice (some ⟨v2.heap.size, 0, none⟩) 0 0) (vx := .slice A2 S.loose.length c2) (by simp [Act.eval]) (by simp [Act.eval]) hrun ?_)
    clear hrun b2 hz2
    go_loopw [13] (fun i wr => SpRel v2 p a b S.loose S.loose.length A3 c3 i wr) (fun i _ => S.loose.length - (intOf i).toNat)
    case atStart => exact HR.out
    case round =>
      clear HR
      obtain ⟨k, hk, rfl, hbw, hw⟩ := hrel
      by_cases hlt : k < S.loose.length
      · obtain ⟨⟨q, y⟩, hy⟩ : ∃ x, S.loose[k]? = some x := ⟨_, List.getElem?_eq_getElem hlt⟩
        have hya := spUp_at (p := p) (a := a) (b := b) hy
        obtain ⟨g3, hg3, y0, y1, y2⟩ := wd_at hw hlt hya
        dsimp only at y0 y1
        have hi3 := idx_loose (n := S.loose.length) (c := c3) hg3 hlt
        have hg3b := HA3.out g3 (by rw [hg3]; rfl)
        have hsw := HBZ.out.step hbw
        have x2 : wr.cell? ⟨w.heap.size + 1, 2, none⟩ = some (.int .i64 (p : Int)) := by rw [hsw.x.cell]; rfl
        have x3 : wr.cell? ⟨w.heap.size + 1, 3, none⟩ = some (.int .i64 (a : Int)) := by rw [hsw.x.cell]; rfl
        have x4 : wr.cell? ⟨w.heap.size + 1, 4, none⟩ = some (.string xs) := by rw [hsw.x.cell]; rfl
        have HYL := Lib.hid (show y.length = 256 from HSL.out _ (List.mem_of_getElem? hy))
        have HG3 := Lib.hid hg3
        have HW := Lib.hid hw
        have HBW := Lib.hid hbw
        have HYA := Lib.hid hya
        have HY := Lib.hid hy
        have HG3B := Lib.hid hg3b
        clear hg3 hw hbw hya hy hsw hg3b
        by_cases hqp : q = p
        · have HQ := Lib.hid hqp
          have hqb : (((q : Nat) : Int) == ((p : Nat) : Int)) = true := by simp [hqp]
          clear hqp
          go_wp2_with fail
          refine wp_region_any (by kernel_rfl) ?_
          change wpAny _ _ _ _ _ _ _ (World.drew _)
          refine Held.any_of_G (S := (fun w' : World => w'.cell? ⟨g3, k * 2, none⟩ = some (.int .i64 (q : Int)) ∧ w'.cell? ⟨w.heap.size + 1, 2, none⟩ = some (.int .i64 (p : Int)))) (z := 7) _ _ _ _ ?_
          refine Held.G_take (i := 0) (d := 223) (v := ?_) [0, 2, 3, 4, 7] rfl rfl (by kernel_rfl) (by kernel_rfl) (by kernel_rfl) (by kernel_rfl) (fun _ _ _ h => h) (Or.inl ⟨by rfl, ?_⟩) (And.intro y0 x2) ?_
          rotate_left 1
          · intro w hSw; clear hSw; go_simp <;> with_reducible rfl
          simp only [Act.put, List.setIfInBounds_toArray, List.set_cons_zero, List.set_cons_succ]
          refine Held.G_take (i := 1) (d := 224) (v := ?_) [1, 2, 3, 4, 7] rfl rfl (by kernel_rfl) (by kernel_rfl) (by kernel_rfl) (by kernel_rfl) (fun _ _ _ h => h) (Or.inl ⟨by rfl, ?_⟩) (And.intro y0 x2) ?_
          rotate_left 1
          · intro w hSw; clear hSw; go_simp <;> with_reducible rfl
          simp only [Act.put, List.setIfInBounds_toArray, List.set_cons_zero, List.set_cons_succ]
          refine Held.G_take (i := 2) (d := 225) (v := ?_) [2, 3, 4, 7] rfl rfl (by kernel_rfl) (by kernel_rfl) (by kernel_rfl) (by kernel_rfl) (fun _ _ _ h => h) (Or.inl ⟨by rfl, ?_⟩) (And.intro y0 x2) ?_
          rotate_left 1
          · intro w hSw; clear hSw; go_simp <;> with_reducible rfl
          simp only [Act.put, List.setIfInBounds_toArray, List.set_cons_zero, List.set_cons_succ]
          refine Held.G_take (i := 3) (d := 226) (v := ?_) [3, 4, 7] rfl rfl (by kernel_rfl) (by kernel_rfl) (by kernel_rfl) (by kernel_rfl) (fun _ _ _ h => h) (Or.inl ⟨by rfl, ?_⟩) (And.intro y0 x2) ?_
          rotate_left 1
          · intro w hSw; clear hSw; go_simp <;> with_reducible rfl
          simp only [Act.put, List.setIfInBounds_toArray, List.set_cons_zero, List.set_cons_succ]
          refine Held.G_take (i := 4) (d := 227) (v := ?_) [4, 7] rfl rfl (by kernel_rfl) (by kernel_rfl) (by kernel_rfl) (by kernel_rfl) (fun _ _ _ h => h) (Or.inl ⟨by rfl, ?_⟩) (And.intro y0 x2) ?_
          rotate_left 1
          · intro w hSw; obtain ⟨h1, h2⟩ := hSw; go_simp <;> with_reducible rfl
          simp only [Act.put, List.setIfInBounds_toArray, List.set_cons_zero, List.set_cons_succ]
          refine Held.G_take (i := 5) (d := 228) (v := ?_) [5, 6, 7] rfl rfl (by kernel_rfl) (by kernel_rfl) (by kernel_rfl) (by kernel_rfl) (fun _ _ _ h => h) (Or.inl ⟨by rfl, ?_⟩) (And.intro y0 x2) ?_
          rotate_left 1
          · intro w hSw; clear hSw; go_simp <;> with_reducible rfl
          simp only [Act.put, List.setIfInBounds_toArray, List.set_cons_zero, List.set_cons_succ]
          refine Held.G_take (i := 6) (d := 229) (v := ?_) [6, 7] rfl rfl (by kernel_rfl) (by kernel_rfl) (by kernel_rfl) (by kernel_rfl) (fun _ _ _ h => h) (Or.inl ⟨by rfl, ?_⟩) (And.intro y0 x2) ?_
          rotate_left 1
          · intro w hSw; obtain ⟨h1, h2⟩ := hSw; go_simp <;> with_reducible rfl
          simp only [Act.put, List.setIfInBounds_toArray, List.set_cons_zero, List.set_cons_succ]
          refine Held.G_ready (rs := [7]) (by decide +kernel) (by simp) ?_
          refine Held.G_last rfl (fun KK hK => ?_) Held.G_nil
          go_simp
          refine hK _ _ ?_
          clear hK KK
          refine Held.G_done (by kernel_rfl) ?_ _
          go_wp2_with fail
          refine wp_region_any (by kernel_rfl) ?_
          change wpAny _ _ _ _ _ _ _ (World.drew _)
          refine Held.any_of_G (S := (fun w' : World => w'.cell? ⟨g3, k * 2 + 1, none⟩ = some (.string (tx y)) ∧ w'.cell? ⟨w.heap.size + 1, 3, none⟩ = some (.int .i64 (a : Int)) ∧ w'.cell? ⟨w.heap.size + 1, 4, none⟩ = some (.string xs))) (z := 14) _ _ _ _ ?_
          refine Held.G_take (i := 0) (d := 231) (v := ?_) [0, 12, 13, 14] rfl rfl (by kernel_rfl) (by kernel_rfl) (by kernel_rfl) (by kernel_rfl) (fun _ _ _ h => h) (Or.inl ⟨by rfl, ?_⟩) (And.intro y1 (And.intro x3 x4)) ?_
          rotate_left 1
          · intro w hSw; clear hSw; go_simp <;> with_reducible rfl
          simp only [Act.put, List.setIfInBounds_toArray, List.set_cons_zero, List.set_cons_succ]
          refine Held.G_take (i := 1) (d := 232) (v := ?_) [1, 12, 13, 14] rfl rfl (by kernel_rfl) (by kernel_rfl) (by kernel_rfl) (by kernel_rfl) (fun _ _ _ h => h) (Or.inl ⟨by rfl, ?_⟩) (And.intro y1 (And.intro x3 x4)) ?_
          rotate_left 1
          · intro w hSw; clear hSw; go_simp <;> with_reducible rfl
          simp only [Act.put, List.setIfInBounds_toArray, List.set_cons_zero, List.set_cons_succ]
          refine Held.G_take (i := 2) (d := 233) (v := ?_) [2, 4, 5, 6, 11, 12, 13, 14] rfl rfl (by kernel_rfl) (by kernel_rfl) (by kernel_rfl) (by kernel_rfl) (fun _ _ _ h => h) (Or.inl ⟨by rfl, ?_⟩) (And.intro y1 (And.intro x3 x4)) ?_
          rotate_left 1
          · intro w hSw; clear hSw; go_simp <;> with_reducible rfl
          simp only [Act.put, List.setIfInBounds_toArray, List.set_cons_zero, List.set_cons_succ]
          refine Held.G_take (i := 3) (d := 234) (v := ?_) [3, 4, 5, 6, 11, 12, 13, 14] rfl rfl (by kernel_rfl) (by kernel_rfl) (by kernel_rfl) (by kernel_rfl) (fun _ _ _ h => h) (Or.inl ⟨by rfl, ?_⟩) (And.intro y1 (And.intro x3 x4)) ?_
          rotate_left 1
          · intro w hSw; clear hSw; go_simp <;> with_reducible rfl
          simp only [Act.put, List.setIfInBounds_toArray, List.set_cons_zero, List.set_cons_succ]
          refine Held.G_take (i := 4) (d := 235) (v := ?_) [4, 5, 6, 11, 12, 13, 14] rfl rfl (by kernel_rfl) (by kernel_rfl) (by kernel_rfl) (by kernel_rfl) (fun _ _ _ h => h) (Or.inl ⟨by rfl, ?_⟩) (And.intro y1 (And.intro x3 x4)) ?_
          rotate_left 1
          · intro w hSw; clear hSw; go_simp <;> with_reducible rfl
          simp only [Act.put, List.setIfInBounds_toArray, List.set_cons_zero, List.set_cons_succ]
          refine Held.G_take (i := 5) (d := 236) (v := ?_) [5, 6, 11, 12, 13, 14] rfl rfl (by kernel_rfl) (by kernel_rfl) (by kernel_rfl) (by kernel_rfl) (fun _ _ _ h => h) (Or.inl ⟨by rfl, ?_⟩) (And.intro y1 (And.intro x3 x4)) ?_
          rotate_left 1
          · intro w hSw; clear hSw; go_simp <;> with_reducible rfl
          simp only [Act.put, List.setIfInBounds_toArray, List.set_cons_zero, List.set_cons_succ]
          refine Held.G_take (i := 6) (d := 237) (v := ?_) [6, 11, 12, 13, 14] rfl rfl (by kernel_rfl) (by kernel_rfl) (by kernel_rfl) (by kernel_rfl) (fun _ _ _ h => h) (Or.inl ⟨by rfl, ?_⟩) (And.intro y1 (And.intro x3 x4)) ?_
          rotate_left 1
          · intro w hSw; obtain ⟨h1, h2, h3⟩ := hSw; go_simp <;> with_reducible rfl
          simp only [Act.put, List.setIfInBounds_toArray, List.set_cons_zero, List.set_cons_succ]
          refine Held.G_take (i := 7) (d := 238) (v := ?_) [7, 8, 11, 12, 13, 14] rfl rfl (by kernel_rfl) (by kernel_rfl) (by kernel_rfl) (by kernel_rfl) (fun _ _ _ h => h) (Or.inl ⟨by rfl, ?_⟩) (And.intro y1 (And.intro x3 x4)) ?_
          rotate_left 1
          · intro w hSw; clear hSw; go_simp <;> with_reducible rfl
          simp only [Act.put, List.setIfInBounds_toArray, List.set_cons_zero, List.set_cons_succ]
          refine Held.G_take (i := 8) (d := 239) (v := ?_) [8, 11, 12, 13, 14] rfl rfl (by kernel_rfl) (by kernel_rfl) (by kernel_rfl) (by kernel_rfl) (fun _ _ _ h => h) (Or.inl ⟨by rfl, ?_⟩) (And.intro y1 (And.intro x3 x4)) ?_
          rotate_left 1
          · intro w hSw; obtain ⟨h1, h2, h3⟩ := hSw; go_simp <;> with_reducible rfl
          simp only [Act.put, List.setIfInBounds_toArray, List.set_cons_zero, List.set_cons_succ]
          refine Held.G_take (i := 9) (d := 240) (v := ?_) [9, 10, 11, 12, 13, 14] rfl rfl (by kernel_rfl) (by kernel_rfl) (by kernel_rfl) (by kernel_rfl) (fun _ _ _ h => h) (Or.inl ⟨by rfl, ?_⟩) (And.intro y1 (And.intro x3 x4)) ?_
          rotate_left 1
          · intro w hSw; clear hSw; go_simp <;> with_reducible rfl
          simp only [Act.put, List.setIfInBounds_toArray, List.set_cons_zero, List.set_cons_succ]
          refine Held.G_take (i := 10) (d := 241) (v := ?_) [10, 11, 12, 13, 14] rfl rfl (by kernel_rfl) (by kernel_rfl) (by kernel_rfl) (by kernel_rfl) (fun _ _ _ h => h) (Or.inl ⟨by rfl, ?_⟩) (And.intro y1 (And.intro x3 x4)) ?_
          rotate_left 1
          · intro w hSw; obtain ⟨h1, h2, h3⟩ := hSw; go_simp <;> with_reducible rfl
          simp only [Act.put, List.setIfInBounds_toArray, List.set_cons_zero, List.set_cons_succ]
          refine Held.G_ready (rs := [11]) (by decide +kernel) (by simp) ?_
          refine Held.G_cons rfl (fun KK hK => ?_) Held.G_nil
          go_simp
          (with_reducible refine (HOV.out y HYL.out _).mono ?_)
          rintro e wt ⟨rfl, nq, rfl⟩
          go_wp2_with fail
          refine ⟨(And.intro y1 (And.intro x3 x4)), ?_⟩
          refine Held.G_take (i := 12) (d := 243) (v := ?_) [12, 13, 14] rfl rfl (by kernel_rfl) (by kernel_rfl) (by kernel_rfl) (by kernel_rfl) (fun _ _ _ h => h) (Or.inl ⟨by rfl, ?_⟩) (And.intro y1 (And.intro x3 x4)) ?_
          rotate_left 1
          · intro w hSw; clear hSw; go_simp <;> with_reducible rfl
          simp only [Act.put, List.setIfInBounds_toArray, List.set_cons_zero, List.set_cons_succ]
          refine Held.G_take (i := 13) (d := 244) (v := ?_) [13, 14] rfl rfl (by kernel_rfl) (by kernel_rfl) (by kernel_rfl) (by kernel_rfl) (fun _ _ _ h => h) (Or.inl ⟨by rfl, ?_⟩) (And.intro y1 (And.intro x3 x4)) ?_
          rotate_left 1
          · intro w hSw; clear hSw; go_simp <;> with_reducible rfl
          simp only [Act.put, List.setIfInBounds_toArray, List.set_cons_zero, List.set_cons_succ]
          refine Held.G_ready (rs := [14]) (by decide +kernel) (by simp) ?_
          refine Held.G_last rfl (fun KK hK => ?_) Held.G_nil
          go_simp
          refine hK _ _ ?_
          clear hK KK
          refine Held.G_done (by kernel_rfl) ?_ _
          go_wp2_with fail
          go_roundw
          case rel =>
            have hg := HG3.out
            have hw := HW.out
            rw [hg] at hw
            refine ⟨k + 1, by omega, by go_num, (HBW.out.trans (below_drewN wr _ _)).setCell HG3B.out _, ?_⟩
            rw [spUp_succ HY.out, DiskLoose.spf, if_pos HQ.out, hg]
            exact wd_put (by exact hw) HYA.out
          case measure => simp [intOf]; omega
        · have HQ := Lib.hid hqp
          have hqb : (((q : Nat) : Int) == ((p : Nat) : Int)) = false := beq_eq_false_iff_ne.2 (by omega)
          clear hqp
          go_wp2_with fail
          refine wp_region_any (by kernel_rfl) ?_
          change wpAny _ _ _ _ _ _ _ (World.drew _)
          refine Held.any_of_G (S := (fun w' : World => w'.cell? ⟨g3, k * 2, none⟩ = some (.int .i64 (q : Int)) ∧ w'.cell? ⟨w.heap.size + 1, 2, none⟩ = some (.int .i64 (p : Int)))) (z := 7) _ _ _ _ ?_
          refine Held.G_take (i := 0) (d := 223) (v := ?_) [0, 2, 3, 4, 7] rfl rfl (by kernel_rfl) (by kernel_rfl) (by kernel_rfl) (by kernel_rfl) (fun _ _ _ h => h) (Or.inl ⟨by rfl, ?_⟩) (And.intro y0 x2) ?_
          rotate_left 1
          · intro w hSw; clear hSw; go_simp <;> with_reducible rfl
          simp only [Act.put, List.setIfInBounds_toArray, List.set_cons_zero, List.set_cons_succ]
          refine Held.G_take (i := 1) (d := 224) (v := ?_) [1, 2, 3, 4, 7] rfl rfl (by kernel_rfl) (by kernel_rfl) (by kernel_rfl) (by kernel_rfl) (fun _ _ _ h => h) (Or.inl ⟨by rfl, ?_⟩) (And.intro y0 x2) ?_
          rotate_left 1
          · intro w hSw; clear hSw; go_simp <;> with_reducible rfl
          simp only [Act.put, List.setIfInBounds_toArray, List.set_cons_zero, List.set_cons_succ]
          refine Held.G_take (i := 2) (d := 225) (v := ?_) [2, 3, 4, 7] rfl rfl (by kernel_rfl) (by kernel_rfl) (by kernel_rfl) (by kernel_rfl) (fun _ _ _ h => h) (Or.inl ⟨by rfl, ?_⟩) (And.intro y0 x2) ?_
          rotate_left 1
          · intro w hSw; clear hSw; go_simp <;> with_reducible rfl
          simp only [Act.put, List.setIfInBounds_toArray, List.set_cons_zero, List.set_cons_succ]
          refine Held.G_take (i := 3) (d := 226) (v := ?_) [3, 4, 7] rfl rfl (by kernel_rfl) (by kernel_rfl) (by kernel_rfl) (by kernel_rfl) (fun _ _ _ h => h) (Or.inl ⟨by rfl, ?_⟩) (And.intro y0 x2) ?_
          rotate_left 1
          · intro w hSw; clear hSw; go_simp <;> with_reducible rfl
          simp only [Act.put, List.setIfInBounds_toArray, List.set_cons_zero, List.set_cons_succ]
          refine Held.G_take (i := 4) (d := 227) (v := ?_) [4, 7] rfl rfl (by kernel_rfl) (by kernel_rfl) (by kernel_rfl) (by kernel_rfl) (fun _ _ _ h => h) (Or.inl ⟨by rfl, ?_⟩) (And.intro y0 x2) ?_
          rotate_left 1
          · intro w hSw; obtain ⟨h1, h2⟩ := hSw; go_simp <;> with_reducible rfl
          simp only [Act.put, List.setIfInBounds_toArray, List.set_cons_zero, List.set_cons_succ]
          refine Held.G_take (i := 5) (d := 228) (v := ?_) [5, 6, 7] rfl rfl (by kernel_rfl) (by kernel_rfl) (by kernel_rfl) (by kernel_rfl) (fun _ _ _ h => h) (Or.inl ⟨by rfl, ?_⟩) (And.intro y0 x2) ?_
          rotate_left 1
          · intro w hSw; clear hSw; go_simp <;> with_reducible rfl
          simp only [Act.put, List.setIfInBounds_toArray, List.set_cons_zero, List.set_cons_succ]
          refine Held.G_take (i := 6) (d := 229) (v := ?_) [6, 7] rfl rfl (by kernel_rfl) (by kernel_rfl) (by kernel_rfl) (by kernel_rfl) (fun _ _ _ h => h) (Or.inl ⟨by rfl, ?_⟩) (And.intro y0 x2) ?_
          rotate_left 1
          · intro w hSw; obtain ⟨h1, h2⟩ := hSw; go_simp <;> with_reducible rfl
          simp only [Act.put, List.setIfInBounds_toArray, List.set_cons_zero, List.set_cons_succ]
          refine Held.G_ready (rs := [7]) (by decide +kernel) (by simp) ?_
          refine Held.G_last rfl (fun KK hK => ?_) Held.G_nil
          go_simp
          refine hK _ _ ?_
          clear hK KK
          refine Held.G_done (by kernel_rfl) ?_ _
          go_wp2_with fail
          go_roundw
          case rel => exact ⟨k + 1, by omega, by go_num, HBW.out.drew, by rw [spUp_same HY.out HQ.out]; exact HW.out⟩
          case measure => simp [intOf]; omega
      · obtain rfl : k = S.loose.length := by omega
        have hs := HBZ.out.step hbw
        have b0 := hs.d0
        have b1 := hs.d1
        have b2 := hs.d2
        have b3 := hs.d3
        have b4 := hs.d4
        have f2 := hs.d.frozen 2
        have r0 := hs.r.cell 0
        have r1 := hs.r.cell 1
        have r2 := hs.r.cell 2
        have r3 := hs.r.cell 3
        have r4 := hs.r.cell 4
        have g0 := hs.r.frozen 0
        have g1 := hs.r.frozen 1
        have g2 := hs.r.frozen 2
        have g3 := hs.r.frozen 3
        have g4 := hs.r.frozen 4
        have HX := Lib.hid (hs.put2 (n3 := S.loose.length) HRR.out (wd_rowR hw (fun i hi => .inr (by have := HA3.out i hi; have := HBZ.out.r.lt; omega))) (spUp_len _ _ _ _ _) c3)
        clear hs hw hbw hlt
        go_wp2_with fail
        exact bodyPost_ret (v := .tuple #[.agg #[.int .i64 S.most, .slice A' S.last.length c', .slice A3 S.loose.length c3, .bool true, .int .i64 f], .int .i64 0]) (by simp [results, Try.results13, go_sem, r0, r1, r2, r3, r4]) rfl (HE.out A' c' A3 c3 _ _ HX.out (turn5 _ _ _ _ _ _ _))
end
end Go.Proofs.Ytecdindjlfefhaa.DiskRefSpoil
