/- The document's disk: Do of a write that is done. -/
import Derived.Test.YtecdindjlfefhaaDiskLoose
import Derived.Test.YtecdindjlfefhaaDiskRefSync
namespace Go.Proofs.Ytecdindjlfefhaa.DiskRefWrite
open Go.RowKit Base DiskPlain DiskMem DiskSmall DiskRead DiskGrow DiskWrite DiskSync DiskCrash DiskSpoil DiskCopy DiskLaw DiskDo DiskPlumb DiskTwo DiskGrows DiskSim DiskSyncs DiskRef DiskRefRead DiskRefDo DiskRefDo3 DiskBox DiskLoose Go.Maps

section
variable {w : World} {S : DS} {A1 A2 : Option Addr} {c1 c2 : Nat} {f : Int} {R : Nat → Prop}
theorem write_st {S : DS} {p : Nat} {b : Pg} (hp : S.has (p : Int) = true) (hb : b.length = 256) (hd : S.dead = false) : S.write (p : Int) b = { S with loose := S.loose ++ [(p, b)], left := S.burn.left } := by
  unfold DS.write
  rw [if_neg (by simp [hp]), if_neg (by simp [hb]), if_neg (by simp [hd])]
  unfold DS.burn
  split
  · rename_i q
    have : (S.written (p : Int).toNat b).fused = S.fused := rfl
    rw [this] at q
    rw [if_pos q]
    rfl
  · rename_i q
    have : (S.written (p : Int).toNat b).fused = S.fused := rfl
    rw [this] at q
    rw [if_neg q]
    rfl
/-- the two appends, in whichever order the new blocks are made -/
def Two2 (w : World) (m : Int) (L : List Pg) (nL : Nat) (A : Option Addr) (c : Nat) (l : List (Nat × Pg)) (n2 : Nat) (A2 : Option Addr) (c2 : Nat) (fb : Bool) (f : Int) (R : Nat → Prop) (x : Ac) (K : Option Addr) (ck : Nat) (A3 : Option Addr) (c3 n3 : Nat) (l3 : List (Nat × Pg)) (wz : World) : Prop :=
  Bx w m L nL A c l n2 A2 c2 fb f R x K ck wz ∧ Wd wz 68 2 A3 n3 c3 (looseStr l3) ∧ (∀ i, A3.map (·.block) = some i → w.heap.size + 1 + 1 < i)
theorem two_copy {m : Int} {L : List Pg} {nL : Nat} {A : Option Addr} {c : Nat} {l : List (Nat × Pg)} {n2 : Nat} {fb : Bool} {x : Ac} {K : Option Addr} {ck : Nat} {v wx : World} {g : Nat} (h : Bx w m L nL A c l n2 A2 c2 fb f R x K ck v) (hb : Below v.heap.size v wx) (hg : v.heap.size ≤ g) (ha : At wx g 68 #[]) (hll : n2 ≤ 100000000) :
    ∃ A' c' wz, (Builtin.append_ #[29, 29] 29 #[.slice (some ⟨g, 0, none⟩) 0 0, .slice A2 n2 c2]).run Try.prog wx = .ok (.slice A' n2 c') wz ∧ Below v.heap.size v wz ∧ Two2 w m L nL A c l n2 A2 c2 fb f R x K ck A' c' n2 l wz ∧ wx.grownBy wz (some g) ∧ (A'.map (·.block) = some g ∨ A'.map (·.block) = some wx.heap.size) := by
  have hx := h.step hb
  have hr := h.r.lt
  have hs := hb.size
  obtain ⟨A', c', wz, h1, h2, h3, h4⟩ := loose_copy wx g A2 c2 l (by rw [h.n2]; omega) ha hx.lo.row
  rw [h.n2] at h1 h2
  have hz : Below v.heap.size v wz := grown_below hb h3 (fun i e => by injection e with e; omega) hs
  exact ⟨A', c', wz, h1, hz, ⟨h.step hz, h2, fun i hi => by rcases h4 with e | e <;> (rw [e] at hi; injection hi with hi; omega)⟩, h3, h4⟩
theorem two_add {m : Int} {L : List Pg} {nL : Nat} {A : Option Addr} {c : Nat} {l : List (Nat × Pg)} {n2 : Nat} {fb : Bool} {x : Ac} {K : Option Addr} {ck : Nat} {v wx : World} {k : Nat} {A3 : Option Addr} {c3 p : Nat} {y : Pg} (h : Bx w m L nL A c l n2 A2 c2 fb f R x K ck v) (hb : Below v.heap.size v wx) (hw : Wd wx 68 2 A3 n2 c3 (looseStr l)) (h3 : ∀ i, A3.map (·.block) = some i → v.heap.size ≤ i) {s : ByteArray} (hy : tx y = s) (hk : At wx k 68 #[.int .i64 (p : Int), .string s]) (hll : n2 ≤ 100000000) :
    ∃ A' c' wz, (Builtin.append_ #[29, 29] 29 #[.slice A3 n2 c3, .slice (some ⟨k, 0, none⟩) 1 1]).run Try.prog wx = .ok (.slice A' (n2 + 1) c') wz ∧ Below v.heap.size v wz ∧ Two2 w m L nL A c l n2 A2 c2 fb f R x K ck A' c' (n2 + 1) (l ++ [(p, y)]) wz := by
  subst hy
  have hr := h.r.lt
  have hs := hb.size
  obtain ⟨A', c', wz, h1, h2, h4, h5⟩ := loose_add wx k A3 n2 c3 l p y hll hw hk
  have hz : Below v.heap.size v wz := grown_below hb h4 h3 hs
  exact ⟨A', c', wz, h1, hz, h.step hz, h2, fun i hi => by
    rcases h5 with e | e
    · rw [e] at hi; have := h3 i hi; omega
    · rw [e] at hi; injection hi with hi; omega⟩
theorem at_keep {wx wz : World} {g k : Nat} {t : TypeId} {cs : Array Value} (h : At wx k t cs) (hg : wx.grownBy wz (some g)) (hne : k ≠ g) : At wz k t cs := h.same (hg.block k h.lt (fun e => hne (by injection e)))
theorem at_new (w : World) (t : TypeId) (cs : Array Value) : At (w.alloc (.cells cs t)) w.heap.size t cs := heap_alloc_new w _
theorem at_old {w : World} {k : Nat} {t : TypeId} {cs : Array Value} (h : At w k t cs) (o : Obj) : At (w.alloc o) k t cs := h.same (Below.heap_alloc w o k h.lt)
theorem wd_below {wx wz : World} {A : Option Addr} {n c : Nat} {e : TypeId} {size : Nat} {xs : List Value} (h : Wd wx e size A n c xs) (hb : Below wx.heap.size wx wz) : Wd wz e size A n c xs := h.same fun i hi => hb.block i (h.blk i hi)
set_option maxRecDepth 100000 in
set_option maxHeartbeats 2000000 in
theorem rdo_write (h : RefP w S A1 A2 f R) (hok : S.Ok) (hR : ∀ b, R b → b < w.heap.size) (x : Ac) (K : Option Addr) (ck : Nat) (hk : x.kind = 1) (hp : S.has x.page = true) (hsz : x.s.size = 256) (hd : S.dead = false) (hll : S.loose.length ≤ 100000000) :
    Calls Try.prog 13 #[.agg #[.int .i64 S.most, .slice A1 S.last.length c1, .slice A2 S.loose.length c2, .bool S.fused, .int .i64 f], .agg #[.int .i64 x.kind, .int .i64 x.n, .int .i64 x.page, .int .i64 x.at_, .string x.s, .slice K x.kept.length ck]] w (RefPost w R (S.write x.page x.b) 0) := by
  have hal := alive_f h hd
  have hln := hok.len4096
  have HOK := Lib.hid hok
  have HRR := Lib.hid hR
  have hp0 : 0 ≤ x.page := (has_iff.1 hp).1
  have hp1 : x.page < (S.last.length : Int) := (has_iff.1 hp).2
  obtain ⟨kd, xn, xp, xa, xs, xk⟩ := x
  dsimp only at hk hp hp0 hp1 hsz ⊢
  subst hk
  obtain ⟨p, rfl⟩ := Int.eq_ofNat_of_zero_le hp0
  clear hp0
  have hb : Ac.b ⟨1, xn, (p : Int), xa, xs, xk⟩ = xs.data.toList := rfl
  rw [hb]
  have hst := write_st (b := xs.data.toList) hp (by simpa using hsz) hd
  have HE := Lib.hid (show ∀ (A : Option Addr) (c : Nat) (v wz : World), Bx w S.most S.last S.last.length A1 c1 (S.loose ++ [(p, xs.data.toList)]) (S.loose.length + 1) A c S.fused (wrap64 (f - 1)) R ⟨1, xn, (p : Int), xa, xs, xk⟩ K ck v → Turn (fun b => b = w.heap.size + 1 + 1) v wz →
      RefPost w R (S.write (p : Int) xs.data.toList) 0 (.returned (.tuple #[.agg #[.int .i64 S.most, .slice A1 S.last.length c1, .slice A (S.loose.length + 1) c, .bool S.fused, .int .i64 (wrap64 (f - 1))], .int .i64 0])) wz from fun A c v wz hb ht => by
    have e := bx_end (S' := S.write (p : Int) xs.data.toList) (by rw [hst]; exact hb) (by rw [hst]; intro q; exact DiskRefSync.fuse_next h hok hd (by rw [burn_fused]; exact q)) ht hR 0
    rw [hst] at e ⊢
    exact e)
  have HB := Lib.hid (bx_start (c1 := c1) (c2 := c2) (x := ⟨1, xn, (p : Int), xa, xs, xk⟩) (K := K) (ck := ck) h (wrap64 (f - 1)))
  dsimp only at HB
  have hpd : decide ((p : Int) < (S.last.length : Int)) = true := by simpa using hp1
  have hxs : tx xs.data.toList = xs := tx_of xs
  have HXS := Lib.hid hxs
  have hsz2 : ((xs.size : Int) != 256) = false := by simp [hsz]
  clear h hok hR hst hb hp hd hxs
  rcases hal with hfu | ⟨hfu, hf0⟩
  · rw [hfu] at HE HB ⊢
    obtain ⟨v, hv⟩ : ∃ v, v = (((w.alloc (.cells #[.int .i64 S.most, .slice A1 S.last.length c1, .slice A2 S.loose.length c2, .bool false, .int .i64 (wrap64 (f - 1))] 31)).alloc (.cells #[.int .i64 1, .int .i64 xn, .int .i64 (p : Int), .int .i64 xa, .string xs, .slice K xk.length ck] 35)).alloc (.cells #[.int .i64 0, .slice none 0 0, .slice none 0 0, .bool false, .int .i64 0] 31)) := ⟨_, rfl⟩
    rw [← hv] at HB
    have HV := Lib.hid (And.intro HB.out hv)
    have hvs : v.heap.size = w.heap.size + 1 + 1 + 1 := by rw [hv]; simp
    clear hv
    have HSP := Lib.hid (show ∀ wx, Below v.heap.size v wx → (fun w' : World => w'.cell? ⟨w.heap.size, 2, none⟩ = some (.slice A2 S.loose.length c2) ∧ w'.cell? ⟨w.heap.size + 1, 2, none⟩ = some (.int .i64 (p : Int)) ∧ w'.cell? ⟨w.heap.size + 1, 4, none⟩ = some (.string xs)) wx from fun wx hb => ⟨(HB.out.step hb).d2, by rw [(HB.out.step hb).x.cell]; rfl, by rw [(HB.out.step hb).x.cell]; rfl⟩)
    have HVS := Lib.hid hvs
    clear hvs HB
    go_enter Try.func13, Try.ntmps13
    go_wp2_with fail
    rw [← HV.out.2]
    have hvs := HVS.out
    have e2 := (HSP.out _ (Below.refl _ v)).1
    have f2 := HV.out.1.d.frozen 2
    refine wp_region_any (by kernel_rfl) ?_
    change wpAny _ _ _ _ _ _ _ (World.drew _)
    refine Held.any_of_G (S := (fun w' : World => w'.cell? ⟨w.heap.size, 2, none⟩ = some (.slice A2 S.loose.length c2) ∧ w'.cell? ⟨w.heap.size + 1, 2, none⟩ = some (.int .i64 (p : Int)) ∧ w'.cell? ⟨w.heap.size + 1, 4, none⟩ = some (.string xs))) (z := 12) _ _ _ _ ?_
    refine Held.G_take (i := 1) (d := 78) (v := ?_) [1, 2, 3, 10, 11, 12] rfl rfl (by kernel_rfl) (by kernel_rfl) (by kernel_rfl) (by kernel_rfl) (fun _ _ _ h => h) (Or.inl ⟨by rfl, ?_⟩) (HSP.out _ ((Below.refl _ v).drew)) ?_
    rotate_left 1
    · intro w hSw; clear hSw; go_simp <;> with_reducible rfl
    simp only [Act.put, List.setIfInBounds_toArray, List.set_cons_zero, List.set_cons_succ]
    refine Held.G_take (i := 2) (d := 79) (v := ?_) [2, 3, 10, 11, 12] rfl rfl (by kernel_rfl) (by kernel_rfl) (by kernel_rfl) (by kernel_rfl) (fun _ _ _ h => h) (Or.inl ⟨by rfl, ?_⟩) (HSP.out _ ((Below.refl _ v).drew)) ?_
    rotate_left 1
    · intro w hSw; obtain ⟨h1, h2, h3⟩ := hSw; go_simp <;> with_reducible rfl
    simp only [Act.put, List.setIfInBounds_toArray, List.set_cons_zero, List.set_cons_succ]
    refine Held.G_take (i := 4) (d := 81) (v := ?_) [4, 5, 8, 9, 10, 11, 12] rfl rfl (by kernel_rfl) (by kernel_rfl) (by kernel_rfl) (by kernel_rfl) (fun _ _ _ h => h) (Or.inl ⟨by rfl, ?_⟩) (HSP.out _ ((Below.refl _ v).drew)) ?_
    rotate_left 1
    · intro w hSw; clear hSw; go_simp <;> with_reducible rfl
    simp only [Act.put, List.setIfInBounds_toArray, List.set_cons_zero, List.set_cons_succ]
    refine Held.G_take (i := 5) (d := 82) (v := ?_) [5, 8, 9, 10, 11, 12] rfl rfl (by kernel_rfl) (by kernel_rfl) (by kernel_rfl) (by kernel_rfl) (fun _ _ _ h => h) (Or.inl ⟨by rfl, ?_⟩) (HSP.out _ ((Below.refl _ v).drew)) ?_
    rotate_left 1
    · intro w hSw; obtain ⟨h1, h2, h3⟩ := hSw; go_simp <;> with_reducible rfl
    simp only [Act.put, List.setIfInBounds_toArray, List.set_cons_zero, List.set_cons_succ]
    refine Held.G_take (i := 6) (d := 83) (v := ?_) [6, 7, 8, 9, 10, 11, 12] rfl rfl (by kernel_rfl) (by kernel_rfl) (by kernel_rfl) (by kernel_rfl) (fun _ _ _ h => h) (Or.inl ⟨by rfl, ?_⟩) (HSP.out _ ((Below.refl _ v).drew)) ?_
    rotate_left 1
    · intro w hSw; clear hSw; go_simp <;> with_reducible rfl
    simp only [Act.put, List.setIfInBounds_toArray, List.set_cons_zero, List.set_cons_succ]
    refine Held.G_take (i := 7) (d := 84) (v := ?_) [7, 8, 9, 10, 11, 12] rfl rfl (by kernel_rfl) (by kernel_rfl) (by kernel_rfl) (by kernel_rfl) (fun _ _ _ h => h) (Or.inl ⟨by rfl, ?_⟩) (HSP.out _ ((Below.refl _ v).drew)) ?_
    rotate_left 1
    · intro w hSw; obtain ⟨h1, h2, h3⟩ := hSw; go_simp <;> with_reducible rfl
    simp only [Act.put, List.setIfInBounds_toArray, List.set_cons_zero, List.set_cons_succ]
    refine Held.G_take (i := 8) (d := 85) (v := ?_) [8, 9, 10, 11, 12] rfl rfl (by kernel_rfl) (by kernel_rfl) (by kernel_rfl) (by kernel_rfl) (fun _ _ _ h => h) (Or.inl ⟨by rfl, ?_⟩) (HSP.out _ ((Below.refl _ v).drew)) ?_
    rotate_left 1
    · intro w hSw; clear hSw; go_simp <;> with_reducible rfl
    simp only [Act.put, List.setIfInBounds_toArray, List.set_cons_zero, List.set_cons_succ]
    refine Held.G_ready (rs := [0, 9]) (by decide +kernel) (by simp) ?_
    refine Held.G_cons rfl (fun KK hK => ?_) ?_
    · go_simp
      refine hK _ _ ⟨(HSP.out _ (((Below.refl _ v).drew).alloc (by simp; try omega) _)), ?_⟩
      clear hK KK
      refine Held.G_ready (rs := [3, 9]) (by decide +kernel) (by simp) ?_
      refine Held.G_cons rfl (fun KK hK => ?_) ?_
      · obtain ⟨A', c', wy, hrun, hby, hy, hgy, hpy⟩ := two_copy (g := v.heap.size) (wx := (v.drew.alloc (.cells #[] 68))) HV.out.1 (((Below.refl _ v).drew).alloc (by simp; try omega) _) (by omega) (at_new _ _ _) hll
        refine step_append_d (d := 80) rfl rfl (.tmp 77) (.tmp 79) 29 29 rfl (vs := .slice (some ⟨v.heap.size, 0, none⟩) 0 0) (vx := .slice A2 S.loose.length c2) (by simp [Act.eval]) (by simp [Act.eval]) hrun ?_
        refine hK _ _ ?_
        clear hK KK hrun
        simp only [Act.put, List.setIfInBounds_toArray, List.set_cons_zero, List.set_cons_succ]
        refine ⟨(HSP.out _ (hby)), ?_⟩
        refine Held.G_ready (rs := [9]) (by decide +kernel) (by simp) ?_
        refine Held.G_cons rfl (fun KK hK => ?_) Held.G_nil
        go_simp
        refine hK _ _ ⟨(HSP.out _ (hby.alloc hby.size _)), ?_⟩
        clear hK KK
        refine Held.G_ready (rs := [10]) (by decide +kernel) (by simp) ?_
        refine Held.G_cons rfl (fun KK hK => ?_) Held.G_nil
        obtain ⟨A3, c3, wz, hrun, hbz, hz⟩ := two_add (k := wy.heap.size) (wx := (wy.alloc (.cells #[.int .i64 (p : Int), .string xs] 68))) (p := p) (y := xs.data.toList) HV.out.1 (hby.alloc hby.size _) (wd_below hy.2.1 ((Below.refl _ wy).alloc (Nat.le_refl _) _)) (fun i hi => by rcases hpy with e | e <;> (have hi2 := Option.some.inj (e.symm.trans hi); (try simp only [World.size_alloc, World.size_drew] at hi2); omega)) HXS.out (by have := at_new wy 68 #[.int .i64 (p : Int), .string xs]; exact this) hll
        refine step_append_d (d := 87) rfl rfl (.tmp 80) (.tmp 86) 29 29 rfl (vs := .slice A' S.loose.length c') (vx := .slice (some ⟨wy.heap.size, 0, none⟩) 1 1) (by simp [Act.eval]) (by simp [Act.eval]) hrun ?_
        refine hK _ _ ?_
        clear hK KK hrun
        simp only [Act.put, List.setIfInBounds_toArray, List.set_cons_zero, List.set_cons_succ]
        have e2 := hz.1.d2
        have f2 := hz.1.d.frozen 2
        refine ⟨(HSP.out _ (hbz)), ?_⟩
        refine Held.G_take (i := 11) (d := 88) (v := ?_) [11, 12] rfl rfl (by kernel_rfl) (by kernel_rfl) (by kernel_rfl) (by kernel_rfl) (fun _ _ _ h => h) (Or.inl ⟨by rfl, ?_⟩) (HSP.out _ (hbz)) ?_
        rotate_left 1
        · intro w hSw; clear hSw; go_simp <;> with_reducible rfl
        simp only [Act.put, List.setIfInBounds_toArray, List.set_cons_zero, List.set_cons_succ]
        refine Held.G_ready (rs := [12]) (by decide +kernel) (by simp) ?_
        refine Held.G_last rfl (fun KK hK => ?_) Held.G_nil
        go_simp
        refine hK _ _ ?_
        clear hK KK
        refine Held.G_done (by kernel_rfl) ?_ _
        have HX := Lib.hid (hz.1.put2 (n3 := S.loose.length + 1) HRR.out (wd_rowR hz.2.1 (fun i hi => .inr (hz.2.2 i hi))) (by simp) c3)
        have b0 := hz.1.d0
        have b1 := hz.1.d1
        have b2 := hz.1.d2
        have b3 := hz.1.d3
        have b4 := hz.1.d4
        have r0 := hz.1.r.cell 0
        have r1 := hz.1.r.cell 1
        have r2 := hz.1.r.cell 2
        have r3 := hz.1.r.cell 3
        have r4 := hz.1.r.cell 4
        have g0 := hz.1.r.frozen 0
        have g1 := hz.1.r.frozen 1
        have g2 := hz.1.r.frozen 2
        have g3 := hz.1.r.frozen 3
        have g4 := hz.1.r.frozen 4
        clear hz hy hby hbz hgy hpy
        go_wp2_with fail
        exact bodyPost_ret (v := .tuple #[.agg #[.int .i64 S.most, .slice A1 S.last.length c1, .slice A3 (S.loose.length + 1) c3, .bool false, .int .i64 (wrap64 (f - 1))], .int .i64 0]) (by simp [results, Try.results13, go_sem, r0, r1, r2, r3, r4]) rfl (HE.out A3 c3 _ _ HX.out (turn5 _ _ _ _ _ _ _))
      refine Held.G_cons rfl (fun KK hK => ?_) Held.G_nil
      go_simp
      refine hK _ _ ⟨(HSP.out _ ((((Below.refl _ v).drew).alloc (by simp; try omega) _).alloc (by simp; try omega) _)), ?_⟩
      clear hK KK
      refine Held.G_ready (rs := [3]) (by decide +kernel) (by simp) ?_
      refine Held.G_cons rfl (fun KK hK => ?_) Held.G_nil
      obtain ⟨A', c', wy, hrun, hby, hy, hgy, hpy⟩ := two_copy (g := v.heap.size) (wx := ((v.drew.alloc (.cells #[] 68)).alloc (.cells #[.int .i64 (p : Int), .string xs] 68))) HV.out.1 ((((Below.refl _ v).drew).alloc (by simp; try omega) _).alloc (by simp; try omega) _) (by omega) (at_old (at_new v.drew _ _) _) hll
      refine step_append_d (d := 80) rfl rfl (.tmp 77) (.tmp 79) 29 29 rfl (vs := .slice (some ⟨v.heap.size, 0, none⟩) 0 0) (vx := .slice A2 S.loose.length c2) (by simp [Act.eval]) (by simp [Act.eval]) hrun ?_
      refine hK _ _ ?_
      clear hK KK hrun
      simp only [Act.put, List.setIfInBounds_toArray, List.set_cons_zero, List.set_cons_succ]
      refine ⟨(HSP.out _ (hby)), ?_⟩
      refine Held.G_ready (rs := [10]) (by decide +kernel) (by simp) ?_
      refine Held.G_cons rfl (fun KK hK => ?_) Held.G_nil
      obtain ⟨A3, c3, wz, hrun, hbz, hz⟩ := two_add (k := (v.heap.size + 1)) (wx := wy) (p := p) (y := xs.data.toList) HV.out.1 hby hy.2.1 (fun i hi => by rcases hpy with e | e <;> (have hi2 := Option.some.inj (e.symm.trans hi); (try simp only [World.size_alloc, World.size_drew] at hi2); omega)) HXS.out (at_keep (by have := at_new (v.drew.alloc (.cells #[] 68)) 68 #[.int .i64 (p : Int), .string xs]; rwa [World.size_alloc] at this) hgy (by omega)) hll
      refine step_append_d (d := 87) rfl rfl (.tmp 80) (.tmp 86) 29 29 rfl (vs := .slice A' S.loose.length c') (vx := .slice (some ⟨(v.heap.size + 1), 0, none⟩) 1 1) (by simp [Act.eval]) (by simp [Act.eval]) hrun ?_
      refine hK _ _ ?_
      clear hK KK hrun
      simp only [Act.put, List.setIfInBounds_toArray, List.set_cons_zero, List.set_cons_succ]
      have e2 := hz.1.d2
      have f2 := hz.1.d.frozen 2
      refine ⟨(HSP.out _ (hbz)), ?_⟩
      refine Held.G_take (i := 11) (d := 88) (v := ?_) [11, 12] rfl rfl (by kernel_rfl) (by kernel_rfl) (by kernel_rfl) (by kernel_rfl) (fun _ _ _ h => h) (Or.inl ⟨by rfl, ?_⟩) (HSP.out _ (hbz)) ?_
      rotate_left 1
      · intro w hSw; clear hSw; go_simp <;> with_reducible rfl
      simp only [Act.put, List.setIfInBounds_toArray, List.set_cons_zero, List.set_cons_succ]
      refine Held.G_ready (rs := [12]) (by decide +kernel) (by simp) ?_
      refine Held.G_last rfl (fun KK hK => ?_) Held.G_nil
      go_simp
      refine hK _ _ ?_
      clear hK KK
      refine Held.G_done (by kernel_rfl) ?_ _
      have HX := Lib.hid (hz.1.put2 (n3 := S.loose.length + 1) HRR.out (wd_rowR hz.2.1 (fun i hi => .inr (hz.2.2 i hi))) (by simp) c3)
      have b0 := hz.1.d0
      have b1 := hz.1.d1
      have b2 := hz.1.d2
      have b3 := hz.1.d3
      have b4 := hz.1.d4
      have r0 := hz.1.r.cell 0
      have r1 := hz.1.r.cell 1
      have r2 := hz.1.r.cell 2
      have r3 := hz.1.r.cell 3
      have r4 := hz.1.r.cell 4
      have g0 := hz.1.r.frozen 0
      have g1 := hz.1.r.frozen 1
      have g2 := hz.1.r.frozen 2
      have g3 := hz.1.r.frozen 3
      have g4 := hz.1.r.frozen 4
      clear hz hy hby hbz hgy hpy
      go_wp2_with fail
      exact bodyPost_ret (v := .tuple #[.agg #[.int .i64 S.most, .slice A1 S.last.length c1, .slice A3 (S.loose.length + 1) c3, .bool false, .int .i64 (wrap64 (f - 1))], .int .i64 0]) (by simp [results, Try.results13, go_sem, r0, r1, r2, r3, r4]) rfl (HE.out A3 c3 _ _ HX.out (turn5 _ _ _ _ _ _ _))
    refine Held.G_cons rfl (fun KK hK => ?_) Held.G_nil
    go_simp
    refine hK _ _ ⟨(HSP.out _ (((Below.refl _ v).drew).alloc (by simp; try omega) _)), ?_⟩
    clear hK KK
    refine Held.G_ready (rs := [0]) (by decide +kernel) (by simp) ?_
    refine Held.G_cons rfl (fun KK hK => ?_) Held.G_nil
    go_simp
    refine hK _ _ ⟨(HSP.out _ ((((Below.refl _ v).drew).alloc (by simp; try omega) _).alloc (by simp; try omega) _)), ?_⟩
    clear hK KK
    refine Held.G_ready (rs := [3]) (by decide +kernel) (by simp) ?_
    refine Held.G_cons rfl (fun KK hK => ?_) Held.G_nil
    obtain ⟨A', c', wy, hrun, hby, hy, hgy, hpy⟩ := two_copy (g := (v.heap.size + 1)) (wx := ((v.drew.alloc (.cells #[.int .i64 (p : Int), .string xs] 68)).alloc (.cells #[] 68))) HV.out.1 ((((Below.refl _ v).drew).alloc (by simp; try omega) _).alloc (by simp; try omega) _) (by omega) (by have := at_new (v.drew.alloc (.cells #[.int .i64 (p : Int), .string xs] 68)) 68 #[]; rwa [World.size_alloc] at this) hll
    refine step_append_d (d := 80) rfl rfl (.tmp 77) (.tmp 79) 29 29 rfl (vs := .slice (some ⟨(v.heap.size + 1), 0, none⟩) 0 0) (vx := .slice A2 S.loose.length c2) (by simp [Act.eval]) (by simp [Act.eval]) hrun ?_
    refine hK _ _ ?_
    clear hK KK hrun
    simp only [Act.put, List.setIfInBounds_toArray, List.set_cons_zero, List.set_cons_succ]
    refine ⟨(HSP.out _ (hby)), ?_⟩
    refine Held.G_ready (rs := [10]) (by decide +kernel) (by simp) ?_
    refine Held.G_cons rfl (fun KK hK => ?_) Held.G_nil
    obtain ⟨A3, c3, wz, hrun, hbz, hz⟩ := two_add (k := v.heap.size) (wx := wy) (p := p) (y := xs.data.toList) HV.out.1 hby hy.2.1 (fun i hi => by rcases hpy with e | e <;> (have hi2 := Option.some.inj (e.symm.trans hi); (try simp only [World.size_alloc, World.size_drew] at hi2); omega)) HXS.out (at_keep (by have := at_old (at_new v.drew 68 #[.int .i64 (p : Int), .string xs]) (.cells #[] 68); exact this) hgy (by simp)) hll
    refine step_append_d (d := 87) rfl rfl (.tmp 80) (.tmp 86) 29 29 rfl (vs := .slice A' S.loose.length c') (vx := .slice (some ⟨v.heap.size, 0, none⟩) 1 1) (by simp [Act.eval]) (by simp [Act.eval]) hrun ?_
    refine hK _ _ ?_
    clear hK KK hrun
    simp only [Act.put, List.setIfInBounds_toArray, List.set_cons_zero, List.set_cons_succ]
    have e2 := hz.1.d2
    have f2 := hz.1.d.frozen 2
    refine ⟨(HSP.out _ (hbz)), ?_⟩
    refine Held.G_take (i := 11) (d := 88) (v := ?_) [11, 12] rfl rfl (by kernel_rfl) (by kernel_rfl) (by kernel_rfl) (by kernel_rfl) (fun _ _ _ h => h) (Or.inl ⟨by rfl, ?_⟩) (HSP.out _ (hbz)) ?_
    rotate_left 1
    · intro w hSw; clear hSw; go_simp <;> with_reducible rfl
    simp only [Act.put, List.setIfInBounds_toArray, List.set_cons_zero, List.set_cons_succ]
    refine Held.G_ready (rs := [12]) (by decide +kernel) (by simp) ?_
    refine Held.G_last rfl (fun KK hK => ?_) Held.G_nil
    go_simp
    refine hK _ _ ?_
    clear hK KK
    refine Held.G_done (by kernel_rfl) ?_ _
    have HX := Lib.hid (hz.1.put2 (n3 := S.loose.length + 1) HRR.out (wd_rowR hz.2.1 (fun i hi => .inr (hz.2.2 i hi))) (by simp) c3)
    have b0 := hz.1.d0
    have b1 := hz.1.d1
    have b2 := hz.1.d2
    have b3 := hz.1.d3
    have b4 := hz.1.d4
    have r0 := hz.1.r.cell 0
    have r1 := hz.1.r.cell 1
    have r2 := hz.1.r.cell 2
    have r3 := hz.1.r.cell 3
    have r4 := hz.1.r.cell 4
    have g0 := hz.1.r.frozen 0
    have g1 := hz.1.r.frozen 1
    have g2 := hz.1.r.frozen 2
    have g3 := hz.1.r.frozen 3
    have g4 := hz.1.r.frozen 4
    clear hz hy hby hbz hgy hpy
    go_wp2_with fail
    exact bodyPost_ret (v := .tuple #[.agg #[.int .i64 S.most, .slice A1 S.last.length c1, .slice A3 (S.loose.length + 1) c3, .bool false, .int .i64 (wrap64 (f - 1))], .int .i64 0]) (by simp [results, Try.results13, go_sem, r0, r1, r2, r3, r4]) rfl (HE.out A3 c3 _ _ HX.out (turn5 _ _ _ _ _ _ _))
  · rw [hfu] at HE HB ⊢
    have hfb : (f == 0) = false := beq_eq_false_iff_ne.2 hf0
    have HF := Lib.hid hf0
    clear hf0
    obtain ⟨v, hv⟩ : ∃ v, v = (((w.alloc (.cells #[.int .i64 S.most, .slice A1 S.last.length c1, .slice A2 S.loose.length c2, .bool true, .int .i64 (wrap64 (f - 1))] 31)).alloc (.cells #[.int .i64 1, .int .i64 xn, .int .i64 (p : Int), .int .i64 xa, .string xs, .slice K xk.length ck] 35)).alloc (.cells #[.int .i64 0, .slice none 0 0, .slice none 0 0, .bool false, .int .i64 0] 31)) := ⟨_, rfl⟩
    rw [← hv] at HB
    have HV := Lib.hid (And.intro HB.out hv)
    have hvs : v.heap.size = w.heap.size + 1 + 1 + 1 := by rw [hv]; simp
    clear hv
    have HSP := Lib.hid (show ∀ wx, Below v.heap.size v wx → (fun w' : World => w'.cell? ⟨w.heap.size, 2, none⟩ = some (.slice A2 S.loose.length c2) ∧ w'.cell? ⟨w.heap.size + 1, 2, none⟩ = some (.int .i64 (p : Int)) ∧ w'.cell? ⟨w.heap.size + 1, 4, none⟩ = some (.string xs)) wx from fun wx hb => ⟨(HB.out.step hb).d2, by rw [(HB.out.step hb).x.cell]; rfl, by rw [(HB.out.step hb).x.cell]; rfl⟩)
    have HVS := Lib.hid hvs
    clear hvs HB
    go_enter Try.func13, Try.ntmps13
    go_wp2_with fail
    rw [← HV.out.2]
    have hvs := HVS.out
    have e2 := (HSP.out _ (Below.refl _ v)).1
    have f2 := HV.out.1.d.frozen 2
    refine wp_region_any (by kernel_rfl) ?_
    change wpAny _ _ _ _ _ _ _ (World.drew _)
    refine Held.any_of_G (S := (fun w' : World => w'.cell? ⟨w.heap.size, 2, none⟩ = some (.slice A2 S.loose.length c2) ∧ w'.cell? ⟨w.heap.size + 1, 2, none⟩ = some (.int .i64 (p : Int)) ∧ w'.cell? ⟨w.heap.size + 1, 4, none⟩ = some (.string xs))) (z := 12) _ _ _ _ ?_
    refine Held.G_take (i := 1) (d := 78) (v := ?_) [1, 2, 3, 10, 11, 12] rfl rfl (by kernel_rfl) (by kernel_rfl) (by kernel_rfl) (by kernel_rfl) (fun _ _ _ h => h) (Or.inl ⟨by rfl, ?_⟩) (HSP.out _ ((Below.refl _ v).drew)) ?_
    rotate_left 1
    · intro w hSw; clear hSw; go_simp <;> with_reducible rfl
    simp only [Act.put, List.setIfInBounds_toArray, List.set_cons_zero, List.set_cons_succ]
    refine Held.G_take (i := 2) (d := 79) (v := ?_) [2, 3, 10, 11, 12] rfl rfl (by kernel_rfl) (by kernel_rfl) (by kernel_rfl) (by kernel_rfl) (fun _ _ _ h => h) (Or.inl ⟨by rfl, ?_⟩) (HSP.out _ ((Below.refl _ v).drew)) ?_
    rotate_left 1
    · intro w hSw; obtain ⟨h1, h2, h3⟩ := hSw; go_simp <;> with_reducible rfl
    simp only [Act.put, List.setIfInBounds_toArray, List.set_cons_zero, List.set_cons_succ]
    refine Held.G_take (i := 4) (d := 81) (v := ?_) [4, 5, 8, 9, 10, 11, 12] rfl rfl (by kernel_rfl) (by kernel_rfl) (by kernel_rfl) (by kernel_rfl) (fun _ _ _ h => h) (Or.inl ⟨by rfl, ?_⟩) (HSP.out _ ((Below.refl _ v).drew)) ?_
    rotate_left 1
    · intro w hSw; clear hSw; go_simp <;> with_reducible rfl
    simp only [Act.put, List.setIfInBounds_toArray, List.set_cons_zero, List.set_cons_succ]
    refine Held.G_take (i := 5) (d := 82) (v := ?_) [5, 8, 9, 10, 11, 12] rfl rfl (by kernel_rfl) (by kernel_rfl) (by kernel_rfl) (by kernel_rfl) (fun _ _ _ h => h) (Or.inl ⟨by rfl, ?_⟩) (HSP.out _ ((Below.refl _ v).drew)) ?_
    rotate_left 1
    · intro w hSw; obtain ⟨h1, h2, h3⟩ := hSw; go_simp <;> with_reducible rfl
    simp only [Act.put, List.setIfInBounds_toArray, List.set_cons_zero, List.set_cons_succ]
    refine Held.G_take (i := 6) (d := 83) (v := ?_) [6, 7, 8, 9, 10, 11, 12] rfl rfl (by kernel_rfl) (by kernel_rfl) (by kernel_rfl) (by kernel_rfl) (fun _ _ _ h => h) (Or.inl ⟨by rfl, ?_⟩) (HSP.out _ ((Below.refl _ v).drew)) ?_
    rotate_left 1
    · intro w hSw; clear hSw; go_simp <;> with_reducible rfl
    simp only [Act.put, List.setIfInBounds_toArray, List.set_cons_zero, List.set_cons_succ]
    refine Held.G_take (i := 7) (d := 84) (v := ?_) [7, 8, 9, 10, 11, 12] rfl rfl (by kernel_rfl) (by kernel_rfl) (by kernel_rfl) (by kernel_rfl) (fun _ _ _ h => h) (Or.inl ⟨by rfl, ?_⟩) (HSP.out _ ((Below.refl _ v).drew)) ?_
    rotate_left 1
    · intro w hSw; obtain ⟨h1, h2, h3⟩ := hSw; go_simp <;> with_reducible rfl
    simp only [Act.put, List.setIfInBounds_toArray, List.set_cons_zero, List.set_cons_succ]
    refine Held.G_take (i := 8) (d := 85) (v := ?_) [8, 9, 10, 11, 12] rfl rfl (by kernel_rfl) (by kernel_rfl) (by kernel_rfl) (by kernel_rfl) (fun _ _ _ h => h) (Or.inl ⟨by rfl, ?_⟩) (HSP.out _ ((Below.refl _ v).drew)) ?_
    rotate_left 1
    · intro w hSw; clear hSw; go_simp <;> with_reducible rfl
    simp only [Act.put, List.setIfInBounds_toArray, List.set_cons_zero, List.set_cons_succ]
    refine Held.G_ready (rs := [0, 9]) (by decide +kernel) (by simp) ?_
    refine Held.G_cons rfl (fun KK hK => ?_) ?_
    · go_simp
      refine hK _ _ ⟨(HSP.out _ (((Below.refl _ v).drew).alloc (by simp; try omega) _)), ?_⟩
      clear hK KK
      refine Held.G_ready (rs := [3, 9]) (by decide +kernel) (by simp) ?_
      refine Held.G_cons rfl (fun KK hK => ?_) ?_
      · obtain ⟨A', c', wy, hrun, hby, hy, hgy, hpy⟩ := two_copy (g := v.heap.size) (wx := (v.drew.alloc (.cells #[] 68))) HV.out.1 (((Below.refl _ v).drew).alloc (by simp; try omega) _) (by omega) (at_new _ _ _) hll
        refine step_append_d (d := 80) rfl rfl (.tmp 77) (.tmp 79) 29 29 rfl (vs := .slice (some ⟨v.heap.size, 0, none⟩) 0 0) (vx := .slice A2 S.loose.length c2) (by simp [Act.eval]) (by simp [Act.eval]) hrun ?_
        refine hK _ _ ?_
        clear hK KK hrun
        simp only [Act.put, List.setIfInBounds_toArray, List.set_cons_zero, List.set_cons_succ]
        refine ⟨(HSP.out _ (hby)), ?_⟩
        refine Held.G_ready (rs := [9]) (by decide +kernel) (by simp) ?_
        refine Held.G_cons rfl (fun KK hK => ?_) Held.G_nil
        go_simp
        refine hK _ _ ⟨(HSP.out _ (hby.alloc hby.size _)), ?_⟩
        clear hK KK
        refine Held.G_ready (rs := [10]) (by decide +kernel) (by simp) ?_
        refine Held.G_cons rfl (fun KK hK => ?_) Held.G_nil
        obtain ⟨A3, c3, wz, hrun, hbz, hz⟩ := two_add (k := wy.heap.size) (wx := (wy.alloc (.cells #[.int .i64 (p : Int), .string xs] 68))) (p := p) (y := xs.data.toList) HV.out.1 (hby.alloc hby.size _) (wd_below hy.2.1 ((Below.refl _ wy).alloc (Nat.le_refl _) _)) (fun i hi => by rcases hpy with e | e <;> (have hi2 := Option.some.inj (e.symm.trans hi); (try simp only [World.size_alloc, World.size_drew] at hi2); omega)) HXS.out (by have := at_new wy 68 #[.int .i64 (p : Int), .string xs]; exact this) hll
        refine step_append_d (d := 87) rfl rfl (.tmp 80) (.tmp 86) 29 29 rfl (vs := .slice A' S.loose.length c') (vx := .slice (some ⟨wy.heap.size, 0, none⟩) 1 1) (by simp [Act.eval]) (by simp [Act.eval]) hrun ?_
        refine hK _ _ ?_
        clear hK KK hrun
        simp only [Act.put, List.setIfInBounds_toArray, List.set_cons_zero, List.set_cons_succ]
        have e2 := hz.1.d2
        have f2 := hz.1.d.frozen 2
        refine ⟨(HSP.out _ (hbz)), ?_⟩
        refine Held.G_take (i := 11) (d := 88) (v := ?_) [11, 12] rfl rfl (by kernel_rfl) (by kernel_rfl) (by kernel_rfl) (by kernel_rfl) (fun _ _ _ h => h) (Or.inl ⟨by rfl, ?_⟩) (HSP.out _ (hbz)) ?_
        rotate_left 1
        · intro w hSw; clear hSw; go_simp <;> with_reducible rfl
        simp only [Act.put, List.setIfInBounds_toArray, List.set_cons_zero, List.set_cons_succ]
        refine Held.G_ready (rs := [12]) (by decide +kernel) (by simp) ?_
        refine Held.G_last rfl (fun KK hK => ?_) Held.G_nil
        go_simp
        refine hK _ _ ?_
        clear hK KK
        refine Held.G_done (by kernel_rfl) ?_ _
        have HX := Lib.hid (hz.1.put2 (n3 := S.loose.length + 1) HRR.out (wd_rowR hz.2.1 (fun i hi => .inr (hz.2.2 i hi))) (by simp) c3)
        have b0 := hz.1.d0
        have b1 := hz.1.d1
        have b2 := hz.1.d2
        have b3 := hz.1.d3
        have b4 := hz.1.d4
        have r0 := hz.1.r.cell 0
        have r1 := hz.1.r.cell 1
        have r2 := hz.1.r.cell 2
        have r3 := hz.1.r.cell 3
        have r4 := hz.1.r.cell 4
        have g0 := hz.1.r.frozen 0
        have g1 := hz.1.r.frozen 1
        have g2 := hz.1.r.frozen 2
        have g3 := hz.1.r.frozen 3
        have g4 := hz.1.r.frozen 4
        clear hz hy hby hbz hgy hpy
        go_wp2_with fail
        exact bodyPost_ret (v := .tuple #[.agg #[.int .i64 S.most, .slice A1 S.last.length c1, .slice A3 (S.loose.length + 1) c3, .bool true, .int .i64 (wrap64 (f - 1))], .int .i64 0]) (by simp [results, Try.results13, go_sem, r0, r1, r2, r3, r4]) rfl (HE.out A3 c3 _ _ HX.out (turn5 _ _ _ _ _ _ _))
      refine Held.G_cons rfl (fun KK hK => ?_) Held.G_nil
      go_simp
      refine hK _ _ ⟨(HSP.out _ ((((Below.refl _ v).drew).alloc (by simp; try omega) _).alloc (by simp; try omega) _)), ?_⟩
      clear hK KK
      refine Held.G_ready (rs := [3]) (by decide +kernel) (by simp) ?_
      refine Held.G_cons rfl (fun KK hK => ?_) Held.G_nil
      obtain ⟨A', c', wy, hrun, hby, hy, hgy, hpy⟩ := two_copy (g := v.heap.size) (wx := ((v.drew.alloc (.cells #[] 68)).alloc (.cells #[.int .i64 (p : Int), .string xs] 68))) HV.out.1 ((((Below.refl _ v).drew).alloc (by simp; try omega) _).alloc (by simp; try omega) _) (by omega) (at_old (at_new v.drew _ _) _) hll
      refine step_append_d (d := 80) rfl rfl (.tmp 77) (.tmp 79) 29 29 rfl (vs := .slice (some ⟨v.heap.size, 0, none⟩) 0 0) (vx := .slice A2 S.loose.length c2) (by simp [Act.eval]) (by simp [Act.eval]) hrun ?_
      refine hK _ _ ?_
      clear hK KK hrun
      simp only [Act.put, List.setIfInBounds_toArray, List.set_cons_zero, List.set_cons_succ]
      refine ⟨(HSP.out _ (hby)), ?_⟩
      refine Held.G_ready (rs := [10]) (by decide +kernel) (by simp) ?_
      refine Held.G_cons rfl (fun KK hK => ?_) Held.G_nil
      obtain ⟨A3, c3, wz, hrun, hbz, hz⟩ := two_add (k := (v.heap.size + 1)) (wx := wy) (p := p) (y := xs.data.toList) HV.out.1 hby hy.2.1 (fun i hi => by rcases hpy with e | e <;> (have hi2 := Option.some.inj (e.symm.trans hi); (try simp only [World.size_alloc, World.size_drew] at hi2); omega)) HXS.out (at_keep (by have := at_new (v.drew.alloc (.cells #[] 68)) 68 #[.int .i64 (p : Int), .string xs]; rwa [World.size_alloc] at this) hgy (by omega)) hll
      refine step_append_d (d := 87) rfl rfl (.tmp 80) (.tmp 86) 29 29 rfl (vs := .slice A' S.loose.length c') (vx := .slice (some ⟨(v.heap.size + 1), 0, none⟩) 1 1) (by simp [Act.eval]) (by simp [Act.eval]) hrun ?_
      refine hK _ _ ?_
      clear hK KK hrun
      simp only [Act.put, List.setIfInBounds_toArray, List.set_cons_zero, List.set_cons_succ]
      have e2 := hz.1.d2
      have f2 := hz.1.d.frozen 2
      refine ⟨(HSP.out _ (hbz)), ?_⟩
      refine Held.G_take (i := 11) (d := 88) (v := ?_) [11, 12] rfl rfl (by kernel_rfl) (by kernel_rfl) (by kernel_rfl) (by kernel_rfl) (fun _ _ _ h => h) (Or.inl ⟨by rfl, ?_⟩) (HSP.out _ (hbz)) ?_
      rotate_left 1
      · intro w hSw; clear hSw; go_simp <;> with_reducible rfl
      simp only [Act.put, List.setIfInBounds_toArray, List.set_cons_zero, List.set_cons_succ]
      refine Held.G_ready (rs := [12]) (by decide +kernel) (by simp) ?_
      refine Held.G_last rfl (fun KK hK => ?_) Held.G_nil
      go_simp
      refine hK _ _ ?_
      clear hK KK
      refine Held.G_done (by kernel_rfl) ?_ _
      have HX := Lib.hid (hz.1.put2 (n3 := S.loose.length + 1) HRR.out (wd_rowR hz.2.1 (fun i hi => .inr (hz.2.2 i hi))) (by simp) c3)
      have b0 := hz.1.d0
      have b1 := hz.1.d1
      have b2 := hz.1.d2
      have b3 := hz.1.d3
      have b4 := hz.1.d4
      have r0 := hz.1.r.cell 0
      have r1 := hz.1.r.cell 1
      have r2 := hz.1.r.cell 2
      have r3 := hz.1.r.cell 3
      have r4 := hz.1.r.cell 4
      have g0 := hz.1.r.frozen 0
      have g1 := hz.1.r.frozen 1
      have g2 := hz.1.r.frozen 2
      have g3 := hz.1.r.frozen 3
      have g4 := hz.1.r.frozen 4
      clear hz hy hby hbz hgy hpy
      go_wp2_with fail
      exact bodyPost_ret (v := .tuple #[.agg #[.int .i64 S.most, .slice A1 S.last.length c1, .slice A3 (S.loose.length + 1) c3, .bool true, .int .i64 (wrap64 (f - 1))], .int .i64 0]) (by simp [results, Try.results13, go_sem, r0, r1, r2, r3, r4]) rfl (HE.out A3 c3 _ _ HX.out (turn5 _ _ _ _ _ _ _))
    refine Held.G_cons rfl (fun KK hK => ?_) Held.G_nil
    go_simp
    refine hK _ _ ⟨(HSP.out _ (((Below.refl _ v).drew).alloc (by simp; try omega) _)), ?_⟩
    clear hK KK
    refine Held.G_ready (rs := [0]) (by decide +kernel) (by simp) ?_
    refine Held.G_cons rfl (fun KK hK => ?_) Held.G_nil
    go_simp
    refine hK _ _ ⟨(HSP.out _ ((((Below.refl _ v).drew).alloc (by simp; try omega) _).alloc (by simp; try omega) _)), ?_⟩
    clear hK KK
    refine Held.G_ready (rs := [3]) (by decide +kernel) (by simp) ?_
    refine Held.G_cons rfl (fun KK hK => ?_) Held.G_nil
    obtain ⟨A', c', wy, hrun, hby, hy, hgy, hpy⟩ := two_copy (g := (v.heap.size + 1)) (wx := ((v.drew.alloc (.cells #[.int .i64 (p : Int), .string xs] 68)).alloc (.cells #[] 68))) HV.out.1 ((((Below.refl _ v).drew).alloc (by simp; try omega) _).alloc (by simp; try omega) _) (by omega) (by have := at_new (v.drew.alloc (.cells #[.int .i64 (p : Int), .string xs] 68)) 68 #[]; rwa [World.size_alloc] at this) hll
    refine step_append_d (d := 80) rfl rfl (.tmp 77) (.tmp 79) 29 29 rfl (vs := .slice (some ⟨(v.heap.size + 1), 0, none⟩) 0 0) (vx := .slice A2 S.loose.length c2) (by simp [Act.eval]) (by simp [Act.eval]) hrun ?_
    refine hK _ _ ?_
    clear hK KK hrun
    simp only [Act.put, List.setIfInBounds_toArray, List.set_cons_zero, List.set_cons_succ]
    refine ⟨(HSP.out _ (hby)), ?_⟩
    refine Held.G_ready (rs := [10]) (by decide +kernel) (by simp) ?_
    refine Held.G_cons rfl (fun KK hK => ?_) Held.G_nil
    obtain ⟨A3, c3, wz, hrun, hbz, hz⟩ := two_add (k := v.heap.size) (wx := wy) (p := p) (y := xs.data.toList) HV.out.1 hby hy.2.1 (fun i hi => by rcases hpy with e | e <;> (have hi2 := Option.some.inj (e.symm.trans hi); (try simp only [World.size_alloc, World.size_drew] at hi2); omega)) HXS.out (at_keep (by have := at_old (at_new v.drew 68 #[.int .i64 (p : Int), .string xs]) (.cells #[] 68); exact this) hgy (by simp)) hll
    refine step_append_d (d := 87) rfl rfl (.tmp 80) (.tmp 86) 29 29 rfl (vs := .slice A' S.loose.length c') (vx := .slice (some ⟨v.heap.size, 0, none⟩) 1 1) (by simp [Act.eval]) (by simp [Act.eval]) hrun ?_
    refine hK _ _ ?_
    clear hK KK hrun
    simp only [Act.put, List.setIfInBounds_toArray, List.set_cons_zero, List.set_cons_succ]
    have e2 := hz.1.d2
    have f2 := hz.1.d.frozen 2
    refine ⟨(HSP.out _ (hbz)), ?_⟩
    refine Held.G_take (i := 11) (d := 88) (v := ?_) [11, 12] rfl rfl (by kernel_rfl) (by kernel_rfl) (by kernel_rfl) (by kernel_rfl) (fun _ _ _ h => h) (Or.inl ⟨by rfl, ?_⟩) (HSP.out _ (hbz)) ?_
    rotate_left 1
    · intro w hSw; clear hSw; go_simp <;> with_reducible rfl
    simp only [Act.put, List.setIfInBounds_toArray, List.set_cons_zero, List.set_cons_succ]
    refine Held.G_ready (rs := [12]) (by decide +kernel) (by simp) ?_
    refine Held.G_last rfl (fun KK hK => ?_) Held.G_nil
    go_simp
    refine hK _ _ ?_
    clear hK KK
    refine Held.G_done (by kernel_rfl) ?_ _
    have HX := Lib.hid (hz.1.put2 (n3 := S.loose.length + 1) HRR.out (wd_rowR hz.2.1 (fun i hi => .inr (hz.2.2 i hi))) (by simp) c3)
    have b0 := hz.1.d0
    have b1 := hz.1.d1
    have b2 := hz.1.d2
    have b3 := hz.1.d3
    have b4 := hz.1.d4
    have r0 := hz.1.r.cell 0
    have r1 := hz.1.r.cell 1
    have r2 := hz.1.r.cell 2
    have r3 := hz.1.r.cell 3
    have r4 := hz.1.r.cell 4
    have g0 := hz.1.r.frozen 0
    have g1 := hz.1.r.frozen 1
    have g2 := hz.1.r.frozen 2
    have g3 := hz.1.r.frozen 3
    have g4 := hz.1.r.frozen 4
    clear hz hy hby hbz hgy hpy
    go_wp2_with fail
    exact bodyPost_ret (v := .tuple #[.agg #[.int .i64 S.most, .slice A1 S.last.length c1, .slice A3 (S.loose.length + 1) c3, .bool true, .int .i64 (wrap64 (f - 1))], .int .i64 0]) (by simp [results, Try.results13, go_sem, r0, r1, r2, r3, r4]) rfl (HE.out A3 c3 _ _ HX.out (turn5 _ _ _ _ _ _ _))
end
end Go.Proofs.Ytecdindjlfefhaa.DiskRefWrite
