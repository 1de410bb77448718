/- FactsUsers, FactsUsersOf. -/
import Derived.Test.YtilcnhdfdgmekaaGreatKFactsOrder
import Derived.Laws.OwnMore
namespace Go.Proofs.YtilcnhdfdgmekaaGreat.FactsUsers
open Go.RowKit Base KeyPlain TuplePlain TupleRef TupleSpec TupleCut FMap FactsPlain FactsMem FactsNew FactsEach SortKit SortSlice FactsLess FactsSort FactsOrder TurnB RowN
open Go.Sort (HoldsK)

theorem holds_below {α : Type} [Inhabited α] {enc : α → List Value} {k g : Nat} {d : Array α} {w w' : World} (h : HoldsK enc k w g 0 d) (hg : g < w.heap.size) (hb : Below w.heap.size w w') : HoldsK enc k w' g 0 d := holds_same h (hb.block g hg)
set_option maxHeartbeats 3200000 in
theorem sort_none (w : World) : Calls Tryz.prog 39 #[.slice none 0 0] w fun e w' => e = .returned (.tuple #[]) ∧ Below w.heap.size w w' := by
  obtain ⟨w1, hw1⟩ : ∃ v, v = w.alloc (.cells #[.slice none 0 0] 47) := ⟨_, rfl⟩
  obtain ⟨b, hbe⟩ : ∃ v, v = w.heap.size := ⟨_, rfl⟩
  have b1 : Below w.heap.size w w1 := by rw [hw1]; exact al _ _
  have a1 : w1.heap[b]? = some (.cells #[.slice none 0 0] 47 (0, 0)) := by rw [hw1, hbe]; exact heap_alloc_new w _
  have hc : w1.cell? ⟨b, 0, none⟩ = some (.slice none 0 0) := by simp [World.cell?, a1]
  have HS := Lib.hid (sort_nil uI_sl 63 #[.pointer (some ⟨b, 0, none⟩)] w1)
  have HB := Lib.hid b1
  have HW1 := Lib.hid hw1
  have HBE := Lib.hid hbe
  clear hw1 hbe b1 a1
  go_enter Tryz.func39, Tryz.ntmps39
  go_upto_region 1 with fail
  rw [← HW1.out, ← HBE.out]
  go_wp2_with fail
  (with_reducible refine HS.out.mono ?_)
  rintro e w4 ⟨rfl, hb⟩
  have HB4 := Lib.hid (Below.step HB.out hb)
  clear hc hb
  go_wp2_with fail
  go_end0
  exact ⟨rfl, HB4.out⟩
set_option maxHeartbeats 3200000 in
theorem sort_some {w : World} {g c n : Nat} (l : List Us) (hn : n = l.length) (few : n < 4611686018427387904) (nd : l.Nodup) (hg : g < w.heap.size) (hh : HoldsK encU 3 w g 0 l.toArray) :
    Calls Tryz.prog 39 #[.slice (some ⟨g, 0, none⟩) n c] w fun e w' => e = .returned (.tuple #[]) ∧ HoldsK encU 3 w' g 0 (mk ltU l).toArray ∧ Onl g w w' := by
  obtain ⟨w1, hw1⟩ : ∃ v, v = w.alloc (.cells #[.slice (some ⟨g, 0, none⟩) n c] 47) := ⟨_, rfl⟩
  obtain ⟨b, hbe⟩ : ∃ v, v = w.heap.size := ⟨_, rfl⟩
  have b1 : Below w.heap.size w w1 := by rw [hw1]; exact al _ _
  have a1 : w1.heap[b]? = some (.cells #[.slice (some ⟨g, 0, none⟩) n c] 47 (0, 0)) := by rw [hw1, hbe]; exact heap_alloc_new w _
  have hc : w1.cell? ⟨b, 0, none⟩ = some (.slice (some ⟨g, 0, none⟩) n c) := by simp [World.cell?, a1]
  have HS := Lib.hid (usort_any l hn few nd hc (heap_lt a1) (Nat.lt_of_lt_of_le hg b1.size) (by omega) (holds_below hh hg b1))
  have HB := Lib.hid b1
  have HW1 := Lib.hid hw1
  have HBE := Lib.hid hbe
  clear hw1 hbe b1 a1 hh hg nd few hn
  go_enter Tryz.func39, Tryz.ntmps39
  go_upto_region 1 with fail
  rw [← HW1.out, ← HBE.out]
  go_wp2_with fail
  (with_reducible refine HS.out.mono ?_)
  rintro e w4 ⟨rfl, hh, hO⟩
  have HF := Lib.hid (show HoldsK encU 3 w4 g 0 (mk ltU l).toArray ∧ Onl g w w4 from ⟨hh, (Onl.ofBelow HB.out).trans hO⟩)
  clear hc hh hO
  go_wp2_with fail
  go_end0
  exact ⟨rfl, HF.out⟩
end Go.Proofs.YtilcnhdfdgmekaaGreat.FactsUsers
namespace Go.Proofs.YtilcnhdfdgmekaaGreat.FactsUsersOf
open Go.RowKit Base KeyPlain TuplePlain TupleRef TupleSpec TupleCut FMap FactsPlain FactsMem FactsHas FactsNew FactsEach SortKit SortSlice FactsLess FactsSort FactsOrder FactsUsers TurnB RowN
open Go.Sort (HoldsK)

def usersOf (G : List Grp) (o : Us) : List Us := ((alls G).filter fun t => decide (t.obj = o)).map (·.u)
/-- users in a row -/
def URow (w : World) (A : Option Addr) (l : List Us) : Prop :=
  ∀ i (hi : i < l.length), ∃ g o, A = some ⟨g, o, none⟩ ∧ g < w.heap.size ∧ ∀ j v, (uc l[i]).toList[j]? = some v → w.cell? ⟨g, o + i * 3 + j, none⟩ = some v
theorem urow_of {w : World} {g : Nat} {l : List Us} (h : HoldsK encU 3 w g 0 l.toArray) (hg : g < w.heap.size) : URow w (some ⟨g, 0, none⟩) l := fun i hi => ⟨g, 0, rfl, hg, fun j v hv => by
  refine enc_at (enc := encU) (k := 3) (d := l.toArray) (fun _ => rfl) h (i := i) (by simpa using hi) j v ?_
  rw [getElem!_pos l.toArray i (by simpa using hi)]
  simpa using hv⟩
def UsersPost (w0 : World) (l : List Us) (e : Ending) (w' : World) : Prop :=
  ∃ (A : Option Addr) (c n : Nat), n = l.length ∧ e = .returned (.slice A n c) ∧ URow w' A l ∧ Below w0.heap.size w0 w'
theorem elem_u : ElemN Tryz.prog 47 30 3 48 := by
  obtain ⟨i, h1, h2, h3, h4⟩ := info_parts (show (Tryz.prog.info? 30).map (fun i => (i.zero, i.size, i.bytes)) = some (some (.agg #[.string ⟨#[]⟩, .string ⟨#[]⟩, .string ⟨#[]⟩]), 3, 48) from by kernel_rfl)
  exact ⟨Tryz.underlying47, i, _, h1, h2, h3, h4, rfl⟩
theorem obj_user {t s : Tp} (h : t.obj = s.obj) (hu : t.u = s.u) : t = s := by
  obtain ⟨a, b, c, d⟩ := t
  obtain ⟨a', b', c', d'⟩ := s
  simp only [Tp.obj, Us.mk.injEq] at h
  obtain ⟨rfl, rfl, rfl⟩ := h
  simp only at hu
  subst hu
  rfl
set_option maxRecDepth 100000 in
set_option maxHeartbeats 12800000 in
theorem users_none {lo : Nat} {w0 : World} {fb gm : Nat} {G : List Grp} (h : Fx lo w0 fb gm G) (o : Us) (ho : UsF o) (hno : ∀ g ∈ G, g.u ≠ o) :
    Calls Tryz.prog 24 #[.pointer (some ⟨fb, 0, none⟩), .string o.k, .string o.i, .string o.r] w0 fun e w' => e = .returned (.slice none 0 0) ∧ Below w0.heap.size w0 w' := by
  have hlook := h.top.miss key_us under_top (zero_tps w0) (isKey_us _ ho) (fun q => by obtain ⟨g, hg, e⟩ := mem_topL.1 q; exact hno g hg e) false
  have hrange := range_nil (P := Tryz.prog) (w := w0) under_tps
  obtain ⟨w1, hw1⟩ : ∃ v, v = w0.alloc (.mapIter none 0 #[] 0) := ⟨_, rfl⟩
  obtain ⟨r1, hr1⟩ : ∃ v, v = w0.heap.size := ⟨_, rfl⟩
  have b1 : Below w0.heap.size w0 w1 := by rw [hw1]; exact al _ _
  have a1 : w1.heap[r1]? = some (.mapIter none 0 #[] 0) := by rw [hw1, hr1]; exact heap_alloc_new w0 _
  have hnext := next_nil (P := Tryz.prog) a1 0
  rw [← hw1, ← hr1] at hrange
  have hc : w0.cell? ⟨fb, 0, none⟩ = some (.map (some gm)) := by simp [World.cell?, h.box]
  have HB := Lib.hid b1
  have HN := Lib.hid hnext
  unfold uc at hlook
  clear h ho hno hw1 hr1 b1 a1 hnext
  go_enter Tryz.func24, Tryz.ntmps24
  go_wp2_with fail
  clear hlook hrange hc
  go_loopg [9] 0 (fun _ vl wr => vl = .slice none 0 0 ∧ wr = w1)
  case atStart => exact ⟨rfl, rfl⟩
  case round =>
    obtain ⟨rfl, rfl⟩ := hrel
    have hnext := HN.out
    go_wp2_with fail
    (with_reducible refine (sort_none _).mono ?_)
    rintro e w4 ⟨rfl, hb⟩
    have HB4 := Lib.hid (Below.step HB.out hb)
    clear hb hnext
    go_wp2_with fail
    go_ret
    exact ⟨rfl, HB4.out⟩
theorem mk_users {G : List Grp} {g : Grp} {done : List Tp} (hg : g ∈ G) (hobj : ∀ t ∈ g.ts, t.obj = g.u) (hall : ∀ t, t ∈ alls G → t.obj = g.u → t ∈ g.ts) (hp : done.Perm g.ts) : mk ltU (done.map (·.u)) = mk ltU (usersOf G g.u) :=
  mk_ext ordU fun x => by
    unfold usersOf
    rw [List.mem_map, List.mem_map]
    constructor
    · rintro ⟨t, ht, rfl⟩
      have ht := hp.mem_iff.1 ht
      exact ⟨t, List.mem_filter.2 ⟨mem_alls.2 ⟨g, hg, ht⟩, by simp [hobj t ht]⟩, rfl⟩
    · rintro ⟨t, ht, rfl⟩
      obtain ⟨h1, h2⟩ := List.mem_filter.1 ht
      exact ⟨t, hp.mem_iff.2 (hall t h1 (by simpa using h2)), rfl⟩
theorem nodup_users {g : Grp} {done : List Tp} (hobj : ∀ t ∈ g.ts, t.obj = g.u) (nd : g.ts.Nodup) (hp : done.Perm g.ts) : (done.map (·.u)).Nodup := by
  rw [List.nodup_iff_pairwise_ne, List.pairwise_map]
  refine ((List.nodup_iff_pairwise_ne.1 (hp.nodup_iff.2 nd)).imp_of_mem ?_)
  intro a b ha hb hne e
  exact hne (obj_user ((hobj a (hp.mem_iff.1 ha)).trans (hobj b (hp.mem_iff.1 hb)).symm) e)
theorem alls_of {G : List Grp} {g : Grp} (hg : g ∈ G) (h : (alls G).Nodup) : g.ts.Nodup ∧ g.ts.length ≤ (alls G).length := by
  obtain ⟨A, B, rfl⟩ := List.append_of_mem hg
  unfold alls at *
  rw [List.flatMap_append, List.flatMap_cons] at *
  exact ⟨(List.nodup_append.1 (List.nodup_append.1 h).2.1).1, by simp only [List.length_append]; omega⟩
set_option maxRecDepth 100000 in
set_option maxHeartbeats 12800000 in
theorem users_some {lo : Nat} {w0 : World} {fb gm : Nat} {G : List Grp} (h : Fx lo w0 fb gm G) (hn : (alls G).length * 96 ≤ 140737488355328) {g : Grp} (hg : g ∈ G) (hall : ∀ t, t ∈ alls G → t.obj = g.u → t ∈ g.ts) :
    Calls Tryz.prog 24 #[.pointer (some ⟨fb, 0, none⟩), .string g.u.k, .string g.u.i, .string g.u.r] w0 (UsersPost w0 (mk ltU (usersOf G g.u))) := by
  have hlook := h.top.look key_us under_top (List.mem_map.2 ⟨g, hg, rfl⟩) false
  obtain ⟨o2, hrange, hitb⟩ := range_tps (h.each g hg)
  obtain ⟨nts, hle⟩ := alls_of hg h.once
  have hgl := h.lt.2.2 g hg
  obtain ⟨w1, hw1⟩ : ∃ v, v = w0.alloc o2 := ⟨_, rfl⟩
  obtain ⟨r1, hr1⟩ : ∃ v, v = w0.heap.size := ⟨_, rfl⟩
  obtain ⟨gb, hgb⟩ : ∃ v, v = g.b := ⟨_, rfl⟩
  have b1 : Below w0.heap.size w0 w1 := by rw [hw1]; exact al _ _
  have hs1 : w1.heap.size = r1 + 1 := by rw [hw1, hr1]; simp
  rw [← hw1, ← hr1] at hrange hitb
  rw [← hgb] at hitb hrange hlook hgl
  have hc : w0.cell? ⟨fb, 0, none⟩ = some (.map (some gm)) := by simp [World.cell?, h.box]
  have HMK := Lib.hid (fun (done : List Tp) (hp : done.Perm g.ts) => mk_users hg (h.obj g hg) hall hp)
  have HND := Lib.hid (fun (done : List Tp) (hp : done.Perm g.ts) => nodup_users (h.obj g hg) nts hp)
  have HN := Lib.hid (show g.ts.length * 96 ≤ 140737488355328 by omega)
  have HB := Lib.hid b1
  have HIT := Lib.hid hitb
  have HR1 := Lib.hid hr1
  have HS1 := Lib.hid hs1
  have HGL := Lib.hid hgl
  generalize mk ltU (usersOf G g.u) = us at *
  unfold uc at hlook
  clear h hn hg hall hw1 hr1 hgb b1 hs1 hitb nts hle hgl
  go_enter Tryz.func24, Tryz.ntmps24
  go_wp2_with fail
  clear hlook hrange hc
  go_loopg [9] g.ts.length (fun kx vl wr => ∃ (rest done : List Tp) (A : Option Addr) (c n : Nat), rest.length ≤ kx ∧ n = done.length ∧ (done ++ rest).Perm g.ts ∧ It Tryz.prog 32 wr r1 gb (tpsL g.ts) (tpsL rest) ∧ vl = .slice A n c ∧ wr.ownsRow (r1 + 1) 30 3 (.slice A n c) n ((done.map (·.u)).flatMap encU) ∧ Below w0.heap.size w0 wr ∧ r1 + 1 ≤ wr.heap.size)
  case atStart => exact ⟨g.ts, [], none, 0, 0, Nat.le_refl _, rfl, by simp, HIT.out, rfl, World.ownsRow_nil _ _ _ _, HB.out, by rw [HS1.out]; exact Nat.le_refl _⟩
  case round =>
    obtain ⟨rest, done, A, c, n, hk, hnl, hperm, hit, rfl, ho, hbw, hsz⟩ := hrel
    have HK := Lib.hid hk
    have HP := Lib.hid hperm
    have HNL := Lib.hid hnl
    rcases hit.next 0 with ⟨hnil, hrun⟩ | ⟨j, x, v, w2, hj, hrun, hit2, hg2, hsz2, hent⟩
    · have hrest : rest = [] := by unfold tpsL at hnil; simpa using hnil
      rw [hrest, List.append_nil] at hperm
      have hmk := HMK.out done hperm
      have hnd := HND.out done hperm
      have hml := mk_len ordU hnd
      have hlen : n = (done.map (·.u)).length := by rw [hnl, List.length_map]
      have hfew : n < 4611686018427387904 := by have := HN.out; have := hperm.length_eq; omega
      rcases ho.2 with ⟨he, h0⟩ | ⟨g2, cap, cur, he, hg3, hcur, hcap, _⟩
      · injection he with e1 e2 e3
        subst e1 e2 e3
        have hz : us = [] := by rw [← hmk, List.eq_nil_iff_length_eq_zero, hml, ← hlen]
        have HZ := Lib.hid hz
        have HB2 := Lib.hid hbw
        clear hk hnl hperm hit ho hbw hsz hnil hrest hmk hnd hml hlen hfew hz
        go_wp2_with fail
        (with_reducible refine (sort_none _).mono ?_)
        rintro e w4 ⟨rfl, hb⟩
        have HB4 := Lib.hid (Below.step HB2.out hb)
        clear hb
        go_wp2_with fail
        go_ret
        exact ⟨none, 0, 0, by rw [HZ.out]; rfl, rfl, by rw [HZ.out]; exact fun i hi => by simp at hi, HB4.out⟩
      · injection he with e1 e2 e3
        subst e1
        have hh := holds_of_own (enc := encU) (k := 3) (by decide) (fun _ => rfl) hlen ho
        have hgl := heap_lt hcur
        have HS := Lib.hid (fun c => sort_some (c := c) _ hlen hfew hnd hgl hh)
        rw [hmk] at HS
        have HB2 := Lib.hid hbw
        have HL := Lib.hid (show n = us.length by rw [← hmk, hml, ← hlen])
        have HG := Lib.hid (show w0.heap.size ≤ g2 ∧ g2 < wr.heap.size from ⟨by rw [← HR1.out]; omega, hgl⟩)
        clear hk hnl hperm hit ho hbw hsz hnil hrest hmk hnd hml hlen hfew hh hgl hcur hg3 hcap e2 e3
        go_wp2_with fail
        (with_reducible refine (HS.out c).mono ?_)
        rintro e w4 ⟨rfl, hh, hO⟩
        have hb4 : Below w0.heap.size w0 w4 := HB2.out.grown hO HB2.out.size fun k hk => by
          injection hk with hk
          rw [← hk]
          exact HG.out.1
        have HF := Lib.hid (show UsersPost w0 us (.returned (.slice (some ⟨g2, 0, none⟩) n c)) w4 from ⟨_, c, n, HL.out, rfl, urow_of hh (Nat.lt_of_lt_of_le HG.out.2 hO.size), hb4⟩)
        clear hh hO hb4
        go_wp2_with fail
        go_ret
        exact HF.out
    · obtain ⟨t, hrt, rfl, rfl, her⟩ := erase_tps hj
      rw [her] at hit2
      have hb2 : Below w0.heap.size w0 w2 := hbw.grown hg2 hbw.size fun k hk => by
        injection hk with hk
        rw [← hk, HR1.out]
        exact Nat.le_refl _
      have ho2 := own_same (w' := w2) ho fun k hk => hg2.block k (ho.lt k hk).2 (fun e => by
        injection e with e
        have := (ho.lt k hk).1
        omega)
      obtain ⟨w5, hw5⟩ : ∃ v, v = w2.alloc (.cells #[.string t.k, .string t.i, .string t.r, .string t.u.k, .string t.u.i, .string t.u.r] 32) := ⟨_, rfl⟩
      have b5 : Below w2.heap.size w2 w5 := by rw [hw5]; exact al _ _
      obtain ⟨tb, htb⟩ : ∃ v, v = w2.heap.size := ⟨_, rfl⟩
      have a5 : w5.heap[tb]? = some (.cells #[.string t.k, .string t.i, .string t.r, .string t.u.k, .string t.u.i, .string t.u.r] 32 (0, 0)) := by rw [hw5, htb]; exact heap_alloc_new w2 _
      obtain ⟨c0, c1, c2, c3, c4, c5⟩ := six_at a5
      obtain ⟨w6, hw6⟩ : ∃ v, v = w5.alloc (.cells #[.string t.u.k, .string t.u.i, .string t.u.r] 30) := ⟨_, rfl⟩
      have b6 : Below w5.heap.size w5 w6 := by rw [hw6]; exact al _ _
      have b26 := Below.step b5 b6
      have hnr : Row w6 w6.heap.size (some ⟨w5.heap.size, 0, none⟩) (encU t.u) := by rw [hw6]; exact (row_of_block (heap_alloc_new w5 _)).more (by simp)
      have hlt : done.length + 1 ≤ g.ts.length := by
        have h1 := hperm.length_eq
        have h2 := (List.getElem?_eq_some_iff.1 hrt).1
        rw [List.length_append] at h1
        omega
      have hbn : n + 1 ≤ maxLen := by have := HN.out; unfold maxLen; omega
      have hby : (n + 1) * 48 ≤ 140737488355328 := by have := HN.out; omega
      have hb6s : r1 + 1 ≤ w6.heap.size := Nat.le_trans hsz (Nat.le_trans hg2.size b26.size)
      obtain ⟨A', c', w7, happ, ho7, hg7, hloc⟩ := run_append_n (c2 := 1) 47 elem_u (by decide) (own_same (w' := w6) ho2 fun k hk => b26.block k (ho2.lt k hk).2) hnr (m := 1) rfl (by intro v hv; simp [encU, uc] at hv; rcases hv with rfl | rfl | rfl <;> rfl) hbn hby hb6s
      have ho7' : w7.ownsRow (r1 + 1) 30 3 (.slice A' (n + 1) c') (n + 1) (((done ++ [t]).map (·.u)).flatMap encU) := by simpa using ho7
      have hit7 := (hit2.same (b26.block gb hit2.mp.lt) (b26.block r1 hit2.ltr))
      have notown : ∀ k, k < r1 + 1 → some k ≠ (Value.slice A n c).ownBlock := fun k hk e => by have := (ho.lt k e.symm).1; omega
      have hit8 := hit7.same (hg7.block gb hit7.mp.lt (notown gb (by have := HGL.out; have := HR1.out; omega))) (hg7.block r1 hit7.ltr (notown r1 (by omega)))
      have hb7 : Below w0.heap.size w0 w7 := (Below.step hb2 b26).grown hg7 (Below.step hb2 b26).size fun k hk => by
        have := (ho.lt k hk).1
        rw [← HR1.out]
        omega
      have HO7 := Lib.hid ho7'
      have HIT8 := Lib.hid hit8
      have HB7 := Lib.hid hb7
      have HSZ := Lib.hid (Nat.le_trans hb6s hg7.size)
      have HRT := Lib.hid hrt
      have HW5 := Lib.hid hw5
      have HW6 := Lib.hid hw6
      have HTB := Lib.hid htb
      unfold tc at hent hrun
      clear hk hnl hperm hit ho hbw hsz hj hit2 hg2 hsz2 hrt her hb2 ho2 hw5 b5 htb a5 hw6 b6 b26 hnr hlt hbn hby hb6s ho7 hg7 hloc ho7' hit7 notown hit8 hb7
      go_upto_region 5 with fail
      rw [← HW5.out, ← HTB.out]
      clear hrun hent
      go_wp2_with (at_builtin; first | refine wpList_append_run rfl (.tmp 25) (.tmp 28) 47 47 rfl rfl rfl (by rw [← HW6.out]; exact happ) ?_)
      go_roundg (rest.eraseIdx j).length
      case measure =>
        have h1 := HK.out
        have h2 := (List.getElem?_eq_some_iff.1 HRT.out).1
        rw [List.length_eraseIdx, if_pos h2]
        omega
      case rel =>
        refine ⟨rest.eraseIdx j, done ++ [t], A', c', n + 1, Nat.le_refl _, by rw [HNL.out]; simp, ?_, HIT8.out, rfl, HO7.out, HB7.out, HSZ.out⟩
        rw [List.append_assoc]
        exact ((perm_erase HRT.out).append_left done).trans HP.out
end Go.Proofs.YtilcnhdfdgmekaaGreat.FactsUsersOf
