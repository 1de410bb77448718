/- The document's disk: Do of a growth that is done. -/
import Derived.Test.YtecdindjlfefhaaDiskLoose
namespace Go.Proofs.Ytecdindjlfefhaa.DiskRefGrow
open Go.RowKit Base DiskPlain DiskMem DiskSmall DiskRead DiskGrow DiskWrite DiskSync DiskCrash DiskSpoil DiskCopy DiskLaw DiskDo DiskPlumb DiskTwo DiskGrows DiskSim DiskSyncs DiskRef DiskRefRead DiskRefDo DiskRefDo3 DiskBox DiskLoose Go.Maps

theorem lastStr_len (L : List Pg) : (lastStr L).length = L.length := by simp [lastStr]
theorem lastStr_one (L : List Pg) : ∀ u ∈ lastStr L, u.oneCell' = true := strs_one _
def lenAt : Option Value → Nat
  | some (.slice _ n _) => n
  | _ => 0
/-- L with noughts, up to n pages -/
def upTo (L : List Pg) (n : Nat) : List Pg := L ++ List.replicate (n - L.length) zeros
theorem upTo_len {L : List Pg} {n : Nat} (h : L.length ≤ n) : (upTo L n).length = n := by simp [upTo]; omega
theorem upTo_self (L : List Pg) : upTo L L.length = L := by simp [upTo]
theorem upTo_succ {L : List Pg} {n : Nat} (h : L.length ≤ n) : lastStr (upTo L (n + 1)) = lastStr (upTo L n) ++ [.string (tx zeros)] := by
  unfold upTo lastStr
  rw [show n + 1 - L.length = (n - L.length) + 1 by omega, List.replicate_succ', ← List.append_assoc]
  simp
/-- within the loop: the disk's box has n pages, in a row of the call's own; else all is as at v -/
structure Gw (w v : World) (m : Int) (L : List Pg) (A2 : Option Addr) (n2 c2 : Nat) (fb : Bool) (f : Int) (n : Nat) (A : Option Addr) (c : Nat) (wr : World) : Prop where
  d : At wr w.heap.size 31 #[.int .i64 m, .slice A n c, .slice A2 n2 c2, .bool fb, .int .i64 f]
  old : ∀ b, b < v.heap.size → b ≠ w.heap.size → wr.heap[b]? = v.heap[b]?
  own : Own wr v.heap.size 9 A c (lastStr (upTo L n))
  below : Below w.heap.size w wr
  size : v.heap.size ≤ wr.heap.size
section
variable {w v wr wx wz : World} {m : Int} {L : List Pg} {nL n : Nat} {A A' : Option Addr} {c c' : Nat} {l : List (Nat × Pg)} {n2 : Nat} {A1 A2 : Option Addr} {c1 c2 : Nat} {fb : Bool} {f : Int} {R : Nat → Prop} {x : Ac} {K : Option Addr} {ck : Nat}
theorem Gw.bx (h : Gw w v m L A2 n2 c2 fb f n A c wr) (hv : Bx w m L nL A1 c1 l n2 A2 c2 fb f R x K ck v) (hsv : v.heap.size = w.heap.size + 1 + 1 + 1) (hR : ∀ b, R b → b < w.heap.size) (hn : L.length ≤ n) : Bx w m (upTo L n) n A c l n2 A2 c2 fb f R x K ck wr := by
  refine ⟨h.d, hv.x.same (h.old _ hv.x.lt (by omega)), hv.r.same (h.old _ hv.r.lt (by omega)), fun k u hu => ?_, fun k u hu => ?_, upTo_len hn, hv.n2, h.below⟩
  · obtain ⟨ad, e, h1, h2⟩ := h.own.row k u hu
    refine ⟨ad, e, .inr ?_, h1, h2⟩
    have hb := (h.own.block ad.block (by rw [e]; rfl)).1
    omega
  · obtain ⟨ad, e, q1, q2, q3⟩ := hv.lo k u hu
    have hne : ad.block ≠ w.heap.size := by
      rcases q1 with q1 | q1
      · have := hR _ q1; omega
      · omega
    have := h.size
    exact ⟨ad, e, q1, by omega, (World.cell?_of_block (by rw [blk_add]; exact h.old _ q2 hne)).trans q3⟩
/-- a new row is stored into the box -/
theorem Gw.put (hd : At wz w.heap.size 31 #[.int .i64 m, .slice A n c, .slice A2 n2 c2, .bool fb, .int .i64 f]) (hold : ∀ b, b < v.heap.size → b ≠ w.heap.size → wz.heap[b]? = v.heap[b]?) {n' : Nat} (ho : Own wz v.heap.size 9 A' c' (lastStr (upTo L n'))) (hb : Below w.heap.size w wz) (hs : v.heap.size ≤ wz.heap.size) (hwv : w.heap.size < v.heap.size) :
    Gw w v m L A2 n2 c2 fb f n' A' c' (wz.setCell ⟨w.heap.size, 1, none⟩ (.slice A' n' c')) :=
  ⟨hd.set 1 _, fun b h1 h2 => (Below.heap_setCell wz _ _ _ h2).trans (hold b h1 h2), World.ownsRow.kept ho ⟨rfl, rfl, rfl, by simp [World.setCell], fun k _ hk => Below.heap_setCell wz _ _ k (fun e => hk (by simp [e]))⟩ (row := some w.heap.size) (.inr fun e => by have := (ho.block _ e).1; omega), hb.setCell (Nat.le_refl _) _, by simpa [World.setCell] using hs⟩
theorem Gw.step (h : Gw w v m L A2 n2 c2 fb f n A c wr) (hb : Below wr.heap.size wr wx) (_hwv : w.heap.size < v.heap.size) : Gw w v m L A2 n2 c2 fb f n A c wx :=
  ⟨h.d.same (hb.block _ h.d.lt), fun b h1 h2 => (hb.block b (Nat.lt_of_lt_of_le h1 h.size)).trans (h.old b h1 h2), h.own.later hb, h.below.trans (hb.mono h.below.size), Nat.le_trans h.size hb.size⟩
/-- one page more -/
theorem gw_add (h : Gw w v m L A2 n2 c2 fb f n A c wr) (hb : Below wr.heap.size wr wx) (hwv : w.heap.size < v.heap.size) (hL : L.length ≤ n) (hn : n ≤ 4096) {g : Nat} (hx : At wx g 9 #[.string (tx zeros)]) :
    ∃ A' c' wz, (Builtin.append_ #[28, 28] 28 #[.slice A n c, .slice (some ⟨g, 0, none⟩) 1 1]).run Try.prog wx = .ok (.slice A' (n + 1) c') wz ∧ At wz w.heap.size 31 #[.int .i64 m, .slice A n c, .slice A2 n2 c2, .bool fb, .int .i64 f] ∧
      Gw w v m L A2 n2 c2 fb f (n + 1) A' c' (wz.setCell ⟨w.heap.size, 1, none⟩ (.slice A' (n + 1) c')) := by
  have hg := h.step hb hwv
  have hrow : Row wx (g + 1) (some ⟨g, 0, none⟩) [.string (tx zeros)] := row_of_block hx
  obtain ⟨A', c', wz, hrun, ho, hgr⟩ := run_append_row (P := Try.prog) (w := wx) (base := v.heap.size) 28 elem_str hg.own (A2 := some ⟨g, 0, none⟩) (c2 := 1) (B := g + 1) (news := [.string (tx zeros)]) hrow (by intro u hu; simp at hu; subst hu; rfl) (by rw [lastStr_len, upTo_len hL]; simp [maxLen]; omega) (by rw [lastStr_len, upTo_len hL]; simp; omega) hg.size
  rw [lastStr_len, upTo_len hL] at hrun hgr
  rw [← upTo_succ hL] at ho
  have hold : ∀ b, b < v.heap.size → wz.heap[b]? = wx.heap[b]? := fun b hbv => hgr.block b (Nat.lt_of_lt_of_le hbv hg.size) (fun e => by
    have := (World.ownsRow.lt hg.own b (by rw [lastStr_len, upTo_len hL]; exact e.symm)).1
    omega)
  have hd := hg.d.same (hold _ hwv)
  have hbl : Below w.heap.size w wz := hg.below.trans ⟨hgr.os, hgr.tape, hgr.output, hgr.size, fun i hi => hold i (by omega)⟩
  exact ⟨A', c', wz, hrun, hd, Gw.put hd (fun b h1 h2 => (hold b h1).trans (hg.old b h1 h2)) ho hbl (Nat.le_trans hg.size hgr.size) hwv⟩
end
section
variable {w : World} {S : DS} {A1 A2 : Option Addr} {c1 c2 : Nat} {f : Int} {R : Nat → Prop}
theorem at_new (w : World) (t : TypeId) (cs : Array Value) : At (w.alloc (.cells cs t)) w.heap.size t cs := heap_alloc_new w _
def GwRel (w v : World) (m : Int) (L : List Pg) (A2 : Option Addr) (n2 c2 : Nat) (fb : Bool) (f : Int) (N : Int) (wr : World) : Prop := ∃ n A c, L.length ≤ n ∧ (n = L.length ∨ (n : Int) ≤ N) ∧ Gw w v m L A2 n2 c2 fb f n A c wr
set_option maxRecDepth 100000 in
set_option maxHeartbeats 2000000 in
theorem rdo_grow (h : RefP w S A1 A2 f R) (hok : S.Ok) (hR : ∀ b, R b → b < w.heap.size) (x : Ac) (K : Option Addr) (ck : Nat) (hk : x.kind = 0) (hx : x.n ≤ S.most) (hd : S.dead = false) (_hll : S.loose.length ≤ 100000000) :
    Calls Try.prog 13 #[.agg #[.int .i64 S.most, .slice A1 S.last.length c1, .slice A2 S.loose.length c2, .bool S.fused, .int .i64 f], .agg #[.int .i64 x.kind, .int .i64 x.n, .int .i64 x.page, .int .i64 x.at_, .string x.s, .slice K x.kept.length ck]] w (RefPost w R (S.grow x.n) 0) := by
  have hal := alive_f h hd
  have hln := hok.len4096
  have hm := hok.m2
  obtain ⟨kd, xn, xp, xa, xs, xk⟩ := x
  dsimp only at hk hx ⊢
  subst hk
  have hst : S.grow xn = S.grown xn := by unfold DS.grow; rw [if_neg (by omega), if_neg (by simp [hd])]
  obtain ⟨v, hv⟩ : ∃ v, v = (((w.alloc (.cells #[.int .i64 S.most, .slice A1 S.last.length c1, .slice A2 S.loose.length c2, .bool S.fused, .int .i64 f] 31)).alloc (.cells #[.int .i64 0, .int .i64 xn, .int .i64 xp, .int .i64 xa, .string xs, .slice K xk.length ck] 35)).alloc (.cells #[.int .i64 0, .slice none 0 0, .slice none 0 0, .bool false, .int .i64 0] 31)) := ⟨_, rfl⟩
  have HB := Lib.hid (bx_start (c1 := c1) (c2 := c2) (x := ⟨0, xn, xp, xa, xs, xk⟩) (K := K) (ck := ck) h f)
  dsimp only at HB
  rw [← hv] at HB
  have hvs : v.heap.size = w.heap.size + 1 + 1 + 1 := by rw [hv]; simp
  have HE := Lib.hid (show ∀ (n : Nat) (A : Option Addr) (c : Nat) (wr wz : World), S.last.length ≤ n → (n = S.last.length ∨ (n : Int) ≤ xn) → xn ≤ n → Gw w v S.most S.last A2 S.loose.length c2 S.fused f n A c wr → Turn (fun b => b = w.heap.size + 1 + 1) wr wz →
      RefPost w R (S.grow xn) 0 (.returned (.tuple #[.agg #[.int .i64 S.most, .slice A n c, .slice A2 S.loose.length c2, .bool S.fused, .int .i64 f], .int .i64 0])) wz from fun n A c wr wz q1 q2 q3 hg ht => by
    have hb := hg.bx HB.out hvs hR q1
    rw [hst]
    have e := bx_end (S' := S.grown xn) (by
      have e2 : (S.grown xn).last = upTo S.last n := by
        show S.last ++ List.replicate (xn.toNat - S.last.length) zeros = _
        unfold upTo
        congr 2
        omega
      rw [e2]
      exact hb) h.fu ht hR 0
    exact e)
  have HR5 := Lib.hid (fun wr n A c (q : S.last.length ≤ n) (hg : Gw w v S.most S.last A2 S.loose.length c2 S.fused f n A c wr) => (hg.bx HB.out hvs hR q).r)
  have HX5 := Lib.hid (fun wr n A c (q : S.last.length ≤ n) (hg : Gw w v S.most S.last A2 S.loose.length c2 S.fused f n A c wr) => (hg.bx HB.out hvs hR q).x)
  obtain ⟨A', c', w1, hrun, ho, hg⟩ := run_append_row (P := Try.prog) (w := v.alloc (.cells #[] 9)) (base := v.heap.size) 28 elem_str (Own.empty (base := v.heap.size) v 9 (Nat.le_refl _)) (A2 := A1) (c2 := c1) (B := v.heap.size) (news := lastStr S.last) (((h.la.below HB.out.below).row).below ((Below.refl _ v).alloc (Nat.le_refl _) _)) (lastStr_one _) (by rw [lastStr_len]; simp [maxLen]; omega) (by rw [lastStr_len]; simp; omega) (by simp)
  simp only [List.length_nil, Nat.zero_add, lastStr_len] at hrun
  obtain ⟨_, hb1, ho1⟩ := copy_step ho hg
  have hwv : w.heap.size < v.heap.size := by omega
  have hd1 := (HB.out.step hb1).d
  have e1 : w1.cell? ⟨w.heap.size, 1, none⟩ = some (.slice A1 S.last.length c1) := by rw [hd1.cell]; rfl
  have f1 := hd1.frozen 1
  have HG := Lib.hid (show GwRel w v S.most S.last A2 S.loose.length c2 S.fused f xn (w1.setCell ⟨w.heap.size, 1, none⟩ (.slice A' S.last.length c')) from ⟨S.last.length, A', c', Nat.le_refl _, .inl rfl, Gw.put hd1 (fun b q1 _ => hb1.block b q1) (by rw [upTo_self]; exact ho1) (HB.out.step hb1).below hb1.size hwv⟩)
  have hza := zeros_any
  obtain ⟨sz, hsz⟩ : ∃ s, s = tx zeros := ⟨_, rfl⟩
  rw [← hsz] at hza
  generalize zrow = Z at hza
  have HSZ := Lib.hid hsz
  have HZA := Lib.hid hza
  have HV := Lib.hid hvs
  rw [hv] at hrun
  simp only [World.size_alloc] at hrun
  clear hsz hza ho hg ho1 hb1 hd1 h hR hok hst HB hvs hv
  rcases hal with hfu | ⟨hfu, hf0⟩
  · rw [hfu] at HE HG HR5 HX5 hrun ⊢
    go_enter Try.func13, Try.ntmps13
    go_wp2_with (at_builtin; refine wpList_append_run rfl (.tmp 44) (.tmp 46) 28 28 rfl (vs := .slice (some ⟨w.heap.size + 1 + 1 + 1, 0, none⟩) 0 0) (vx := .slice A1 S.last.length c1) (by simp [Act.eval]) (by simp [Act.eval]) hrun ?_)
    all_goals
      clear hrun e1 f1
      go_loopw [53] (fun _ wr => GwRel w v S.most S.last A2 S.loose.length c2 false f xn wr) (fun _ wr => xn.toNat - lenAt (wr.cell? ⟨w.heap.size, 1, none⟩))
      case atStart => exact HG.out
      case round =>
        obtain ⟨n, A, c, hln1, hln2, hg⟩ := hrel
        clear HG
        have e1 : wr.cell? ⟨w.heap.size, 1, none⟩ = some (.slice A n c) := by rw [hg.d.cell]; rfl
        have x1 : wr.cell? ⟨w.heap.size + 1, 1, none⟩ = some (.int .i64 xn) := by rw [(HX5.out _ _ _ _ hln1 hg).cell]; rfl
        by_cases hlt : (n : Int) < xn
        · have HSP := Lib.hid (show ∀ wx, Below wr.heap.size wr wx → (fun w' : World => w'.cell? ⟨w.heap.size, 1, none⟩ = some (.slice A n c)) wx from fun wx hb => by
            show wx.cell? ⟨w.heap.size, 1, none⟩ = some (.slice A n c)
            rw [(hg.step hb (by have := HV.out; omega)).d.cell]; rfl)
          have hlt2 : decide ((n : Int) < xn) = true := by simpa using hlt
          go_wp2_with fail
          refine wp_region_any (by kernel_rfl) ?_
          change wpAny _ _ _ _ _ _ _ (World.drew _)
          refine Held.any_of_G (S := (fun w' : World => w'.cell? ⟨w.heap.size, 1, none⟩ = some (.slice A n c))) (z := 6) _ _ _ _ ?_
          refine Held.G_take (i := 0) (d := 55) (v := ?_) [0, 1, 4, 5, 6] rfl rfl (by kernel_rfl) (by kernel_rfl) (by kernel_rfl) (by kernel_rfl) (fun _ _ _ h => h) (Or.inl ⟨by rfl, ?_⟩) (HSP.out _ ((Below.refl _ wr).drew)) ?_
          rotate_left 1
          · intro w hSw; clear hSw; go_simp <;> with_reducible rfl
          simp only [Act.put, List.setIfInBounds_toArray, List.set_cons_zero, List.set_cons_succ]
          refine Held.G_take (i := 1) (d := 56) (v := ?_) [1, 4, 5, 6] rfl rfl (by kernel_rfl) (by kernel_rfl) (by kernel_rfl) (by kernel_rfl) (fun _ _ _ h => h) (Or.inl ⟨by rfl, ?_⟩) (HSP.out _ ((Below.refl _ wr).drew)) ?_
          rotate_left 1
          · intro w hSw; have h1 := hSw; clear hSw; (try dsimp only at h1); go_simp <;> with_reducible rfl
          simp only [Act.put, List.setIfInBounds_toArray, List.set_cons_zero, List.set_cons_succ]
          refine Held.G_ready (rs := [2]) (by decide +kernel) (by simp) ?_
          refine Held.G_cons rfl (fun KK hK => ?_) Held.G_nil
          go_simp
          (with_reducible refine (HZA.out _).mono ?_)
          rintro e wt ⟨rfl, rfl⟩
          go_wp2_with fail
          refine ⟨(HSP.out _ (((Below.refl _ wr).drew).alloc (by simp) _)), ?_⟩
          refine Held.G_ready (rs := [3]) (by decide +kernel) (by simp) ?_
          refine Held.G_cons rfl (fun KK hK => ?_) Held.G_nil
          go_simp
          refine hK _ _ ⟨(HSP.out _ ((((Below.refl _ wr).drew).alloc (by simp) _).alloc (by simp; try omega) _)), ?_⟩
          clear hK KK
          refine Held.G_ready (rs := [4]) (by decide +kernel) (by simp) ?_
          refine Held.G_cons rfl (fun KK hK => ?_) Held.G_nil
          obtain ⟨A3, c3, wz, hrun2, hdz, hgz⟩ := gw_add (wx := ((wr.drew.alloc (.cells Z 5)).alloc (.cells #[.string sz] 9))) (g := wr.heap.size + 1) hg (((Below.refl _ wr).drew.alloc (by simp) _).alloc (by simp; try omega) _) (by have := HV.out; omega) hln1 (by omega) (by have := at_new (wr.drew.alloc (.cells Z 5)) 9 #[.string sz]; rw [World.size_alloc] at this; rw [← HSZ.out]; exact this)
          refine step_append_d (d := 59) rfl rfl (.tmp 56) (.tmp 58) 28 28 rfl (vs := .slice A n c) (vx := .slice (some ⟨wr.heap.size + 1, 0, none⟩) 1 1) (by simp [Act.eval]) (by simp [Act.eval]) hrun2 ?_
          refine hK _ _ ?_
          clear hK KK hrun2
          simp only [Act.put, List.setIfInBounds_toArray, List.set_cons_zero, List.set_cons_succ]
          have hsp4 : wz.cell? ⟨w.heap.size, 1, none⟩ = some (.slice A n c) := by rw [hdz.cell]; rfl
          have fz := hdz.frozen 1
          refine ⟨hsp4, ?_⟩
          refine Held.G_take (i := 5) (d := 60) (v := ?_) [5, 6] rfl rfl (by kernel_rfl) (by kernel_rfl) (by kernel_rfl) (by kernel_rfl) (fun _ _ _ h => h) (Or.inl ⟨by rfl, ?_⟩) hsp4 ?_
          rotate_left 1
          · intro w hSw; clear hSw; go_simp <;> with_reducible rfl
          simp only [Act.put, List.setIfInBounds_toArray, List.set_cons_zero, List.set_cons_succ]
          refine Held.G_ready (rs := [6]) (by decide +kernel) (by simp) ?_
          refine Held.G_last rfl (fun KK hK => ?_) Held.G_nil
          go_simp
          refine hK _ _ ?_
          clear hK KK
          refine Held.G_done (by kernel_rfl) ?_ _
          have HN := Lib.hid hgz
          clear hgz hdz fz hsp4 hg
          go_wp2_with fail
          go_roundw
          case rel => exact ⟨n + 1, A3, c3, by omega, .inr (by omega), HN.out⟩
          case measure =>
              have q1 : lenAt (wr.cell? ⟨w.heap.size, 1, none⟩) = n := by rw [e1]; rfl
              have q2 : lenAt ((wz.setCell ⟨w.heap.size, 1, none⟩ (.slice A3 (n + 1) c3)).cell? ⟨w.heap.size, 1, none⟩) = n + 1 := by rw [HN.out.d.cell]; rfl
              show xn.toNat - lenAt ((wz.setCell ⟨w.heap.size, 1, none⟩ (.slice A3 (n + 1) c3)).cell? ⟨w.heap.size, 1, none⟩) < xn.toNat - lenAt (wr.cell? ⟨w.heap.size, 1, none⟩)
              rw [q1, q2]
              omega
        · have hge : xn ≤ (n : Int) := by omega
          have hlt2 : decide ((n : Int) < xn) = false := by simpa using hlt
          have hr := HR5.out _ _ _ _ hln1 hg
          have b0 : wr.cell? ⟨w.heap.size, 0, none⟩ = some (.int .i64 S.most) := by rw [hg.d.cell]; rfl
          have b2 : wr.cell? ⟨w.heap.size, 2, none⟩ = some (.slice A2 S.loose.length c2) := by rw [hg.d.cell]; rfl
          have b3 : wr.cell? ⟨w.heap.size, 3, none⟩ = some (.bool false) := by rw [hg.d.cell]; rfl
          have b4 : wr.cell? ⟨w.heap.size, 4, none⟩ = some (.int .i64 f) := by rw [hg.d.cell]; rfl
          have r0 := hr.cell 0
          have r1 := hr.cell 1
          have r2 := hr.cell 2
          have r3 := hr.cell 3
          have r4 := hr.cell 4
          have g0 := hr.frozen 0
          have g1 := hr.frozen 1
          have g2 := hr.frozen 2
          have g3 := hr.frozen 3
          have g4 := hr.frozen 4
          have HX := Lib.hid hg
          have HL1 := Lib.hid hln1
          have HL2 := Lib.hid hln2
          have HGE := Lib.hid hge
          clear hg hr hln1 hln2 hge hlt
          go_wp2_with fail
          exact bodyPost_ret (v := .tuple #[.agg #[.int .i64 S.most, .slice A n c, .slice A2 S.loose.length c2, .bool false, .int .i64 f], .int .i64 0]) (by simp [results, Try.results13, go_sem, r0, r1, r2, r3, r4]) rfl (HE.out n A c _ _ HL1.out HL2.out HGE.out HX.out (turn5 _ _ _ _ _ _ _))
  · rw [hfu] at HE HG HR5 HX5 hrun ⊢
    have hfb : (f == 0) = false := beq_eq_false_iff_ne.2 hf0
    have HF := Lib.hid hf0
    clear hf0
    go_enter Try.func13, Try.ntmps13
    go_wp2_with (at_builtin; refine wpList_append_run rfl (.tmp 44) (.tmp 46) 28 28 rfl (vs := .slice (some ⟨w.heap.size + 1 + 1 + 1, 0, none⟩) 0 0) (vx := .slice A1 S.last.length c1) (by simp [Act.eval]) (by simp [Act.eval]) hrun ?_)
    all_goals
      clear hrun e1 f1
      go_loopw [53] (fun _ wr => GwRel w v S.most S.last A2 S.loose.length c2 true f xn wr) (fun _ wr => xn.toNat - lenAt (wr.cell? ⟨w.heap.size, 1, none⟩))
      case atStart => exact HG.out
      case round =>
        obtain ⟨n, A, c, hln1, hln2, hg⟩ := hrel
        clear HG
        have e1 : wr.cell? ⟨w.heap.size, 1, none⟩ = some (.slice A n c) := by rw [hg.d.cell]; rfl
        have x1 : wr.cell? ⟨w.heap.size + 1, 1, none⟩ = some (.int .i64 xn) := by rw [(HX5.out _ _ _ _ hln1 hg).cell]; rfl
        by_cases hlt : (n : Int) < xn
        · have HSP := Lib.hid (show ∀ wx, Below wr.heap.size wr wx → (fun w' : World => w'.cell? ⟨w.heap.size, 1, none⟩ = some (.slice A n c)) wx from fun wx hb => by
            show wx.cell? ⟨w.heap.size, 1, none⟩ = some (.slice A n c)
            rw [(hg.step hb (by have := HV.out; omega)).d.cell]; rfl)
          have hlt2 : decide ((n : Int) < xn) = true := by simpa using hlt
          go_wp2_with fail
          refine wp_region_any (by kernel_rfl) ?_
          change wpAny _ _ _ _ _ _ _ (World.drew _)
          refine Held.any_of_G (S := (fun w' : World => w'.cell? ⟨w.heap.size, 1, none⟩ = some (.slice A n c))) (z := 6) _ _ _ _ ?_
          refine Held.G_take (i := 0) (d := 55) (v := ?_) [0, 1, 4, 5, 6] rfl rfl (by kernel_rfl) (by kernel_rfl) (by kernel_rfl) (by kernel_rfl) (fun _ _ _ h => h) (Or.inl ⟨by rfl, ?_⟩) (HSP.out _ ((Below.refl _ wr).drew)) ?_
          rotate_left 1
          · intro w hSw; clear hSw; go_simp <;> with_reducible rfl
          simp only [Act.put, List.setIfInBounds_toArray, List.set_cons_zero, List.set_cons_succ]
          refine Held.G_take (i := 1) (d := 56) (v := ?_) [1, 4, 5, 6] rfl rfl (by kernel_rfl) (by kernel_rfl) (by kernel_rfl) (by kernel_rfl) (fun _ _ _ h => h) (Or.inl ⟨by rfl, ?_⟩) (HSP.out _ ((Below.refl _ wr).drew)) ?_
          rotate_left 1
          · intro w hSw; have h1 := hSw; clear hSw; (try dsimp only at h1); go_simp <;> with_reducible rfl
          simp only [Act.put, List.setIfInBounds_toArray, List.set_cons_zero, List.set_cons_succ]
          refine Held.G_ready (rs := [2]) (by decide +kernel) (by simp) ?_
          refine Held.G_cons rfl (fun KK hK => ?_) Held.G_nil
          go_simp
          (with_reducible refine (HZA.out _).mono ?_)
          rintro e wt ⟨rfl, rfl⟩
          go_wp2_with fail
          refine ⟨(HSP.out _ (((Below.refl _ wr).drew).alloc (by simp) _)), ?_⟩
          refine Held.G_ready (rs := [3]) (by decide +kernel) (by simp) ?_
          refine Held.G_cons rfl (fun KK hK => ?_) Held.G_nil
          go_simp
          refine hK _ _ ⟨(HSP.out _ ((((Below.refl _ wr).drew).alloc (by simp) _).alloc (by simp; try omega) _)), ?_⟩
          clear hK KK
          refine Held.G_ready (rs := [4]) (by decide +kernel) (by simp) ?_
          refine Held.G_cons rfl (fun KK hK => ?_) Held.G_nil
          obtain ⟨A3, c3, wz, hrun2, hdz, hgz⟩ := gw_add (wx := ((wr.drew.alloc (.cells Z 5)).alloc (.cells #[.string sz] 9))) (g := wr.heap.size + 1) hg (((Below.refl _ wr).drew.alloc (by simp) _).alloc (by simp; try omega) _) (by have := HV.out; omega) hln1 (by omega) (by have := at_new (wr.drew.alloc (.cells Z 5)) 9 #[.string sz]; rw [World.size_alloc] at this; rw [← HSZ.out]; exact this)
          refine step_append_d (d := 59) rfl rfl (.tmp 56) (.tmp 58) 28 28 rfl (vs := .slice A n c) (vx := .slice (some ⟨wr.heap.size + 1, 0, none⟩) 1 1) (by simp [Act.eval]) (by simp [Act.eval]) hrun2 ?_
          refine hK _ _ ?_
          clear hK KK hrun2
          simp only [Act.put, List.setIfInBounds_toArray, List.set_cons_zero, List.set_cons_succ]
          have hsp4 : wz.cell? ⟨w.heap.size, 1, none⟩ = some (.slice A n c) := by rw [hdz.cell]; rfl
          have fz := hdz.frozen 1
          refine ⟨hsp4, ?_⟩
          refine Held.G_take (i := 5) (d := 60) (v := ?_) [5, 6] rfl rfl (by kernel_rfl) (by kernel_rfl) (by kernel_rfl) (by kernel_rfl) (fun _ _ _ h => h) (Or.inl ⟨by rfl, ?_⟩) hsp4 ?_
          rotate_left 1
          · intro w hSw; clear hSw; go_simp <;> with_reducible rfl
          simp only [Act.put, List.setIfInBounds_toArray, List.set_cons_zero, List.set_cons_succ]
          refine Held.G_ready (rs := [6]) (by decide +kernel) (by simp) ?_
          refine Held.G_last rfl (fun KK hK => ?_) Held.G_nil
          go_simp
          refine hK _ _ ?_
          clear hK KK
          refine Held.G_done (by kernel_rfl) ?_ _
          have HN := Lib.hid hgz
          clear hgz hdz fz hsp4 hg
          go_wp2_with fail
          go_roundw
          case rel => exact ⟨n + 1, A3, c3, by omega, .inr (by omega), HN.out⟩
          case measure =>
              have q1 : lenAt (wr.cell? ⟨w.heap.size, 1, none⟩) = n := by rw [e1]; rfl
              have q2 : lenAt ((wz.setCell ⟨w.heap.size, 1, none⟩ (.slice A3 (n + 1) c3)).cell? ⟨w.heap.size, 1, none⟩) = n + 1 := by rw [HN.out.d.cell]; rfl
              show xn.toNat - lenAt ((wz.setCell ⟨w.heap.size, 1, none⟩ (.slice A3 (n + 1) c3)).cell? ⟨w.heap.size, 1, none⟩) < xn.toNat - lenAt (wr.cell? ⟨w.heap.size, 1, none⟩)
              rw [q1, q2]
              omega
        · have hge : xn ≤ (n : Int) := by omega
          have hlt2 : decide ((n : Int) < xn) = false := by simpa using hlt
          have hr := HR5.out _ _ _ _ hln1 hg
          have b0 : wr.cell? ⟨w.heap.size, 0, none⟩ = some (.int .i64 S.most) := by rw [hg.d.cell]; rfl
          have b2 : wr.cell? ⟨w.heap.size, 2, none⟩ = some (.slice A2 S.loose.length c2) := by rw [hg.d.cell]; rfl
          have b3 : wr.cell? ⟨w.heap.size, 3, none⟩ = some (.bool true) := by rw [hg.d.cell]; rfl
          have b4 : wr.cell? ⟨w.heap.size, 4, none⟩ = some (.int .i64 f) := by rw [hg.d.cell]; rfl
          have r0 := hr.cell 0
          have r1 := hr.cell 1
          have r2 := hr.cell 2
          have r3 := hr.cell 3
          have r4 := hr.cell 4
          have g0 := hr.frozen 0
          have g1 := hr.frozen 1
          have g2 := hr.frozen 2
          have g3 := hr.frozen 3
          have g4 := hr.frozen 4
          have HX := Lib.hid hg
          have HL1 := Lib.hid hln1
          have HL2 := Lib.hid hln2
          have HGE := Lib.hid hge
          clear hg hr hln1 hln2 hge hlt
          go_wp2_with fail
          exact bodyPost_ret (v := .tuple #[.agg #[.int .i64 S.most, .slice A n c, .slice A2 S.loose.length c2, .bool true, .int .i64 f], .int .i64 0]) (by simp [results, Try.results13, go_sem, r0, r1, r2, r3, r4]) rfl (HE.out n A c _ _ HL1.out HL2.out HGE.out HX.out (turn5 _ _ _ _ _ _ _))
end
end Go.Proofs.Ytecdindjlfefhaa.DiskRefGrow
