/- All tuples of a set, told one by one in whatever order. -/
import Derived.Test.YtilcnhdfdgmekaaGreatKFactsNew
import Derived.Shelf.Abstract
namespace Go.Proofs.YtilcnhdfdgmekaaGreat.FactsEach
open Go.RowKit Base KeyPlain TuplePlain TupleRef TupleSpec TupleCut FMap FactsPlain FactsMem FactsHas FactsPut TurnB

/-- the blocks of a set -/
def Fb (fb gm : Nat) (G : List Grp) (k : Nat) : Prop := k = fb ∨ k = gm ∨ ∃ g ∈ G, k = g.b
/-- what is told to: a function fn, bound to caps; Q: behind which tuples it stands, and which blocks it may turn -/
structure Tells (fb gm : Nat) (G : List Grp) (lo0 : Nat) (fn : Nat) (caps : Array Value) (Q : List Tp → (Nat → Prop) → World → Prop) : Prop where
  enter : ∀ args w, (callFunc fn args).run Tryz.prog w = .ok (.enter fn args) w
  stay : ∀ done X w w', Q done X w → w.heap.size ≤ w'.heap.size → (∀ k, k < w.heap.size → (k < lo0 ∨ X k) → w'.heap[k]? = w.heap[k]?) → Q done X w'
  inb : ∀ done X w, Q done X w → ∀ k, X k → k < w.heap.size ∧ ¬ Fb fb gm G k
  step : ∀ done X w t, Q done X w → t ∈ alls G → (done ++ [t]).length ≤ (alls G).length → Calls Tryz.prog fn (#[.agg (tc t)] ++ caps) w fun e w' => e = .returned (.tuple #[]) ∧ ∃ X', Q (done ++ [t]) X' w' ∧ (∀ k, X' k → X k ∨ w.heap.size ≤ k) ∧ Turn X w w'
/-- under way -/
structure Ev (fb gm : Nat) (G : List Grp) (lo : Nat) (Q : List Tp → (Nat → Prop) → World → Prop) (X0 : Nat → Prop) (w0 w : World) (done : List Tp) (X : Nat → Prop) : Prop where
  fx : Fx lo w fb gm G
  q : Q done X w
  sub : ∀ k, X k → X0 k ∨ w0.heap.size ≤ k
  turn : Turn X0 w0 w
theorem range_tps {w : World} {b : Nat} {l : List (Value × Value)} (h : Mp Tryz.prog 32 w b l) : ∃ o, (Instr.range 68 (.map (some b))).run Tryz.prog w = .ok (.pointer (some ⟨w.heap.size, 0, none⟩)) (w.alloc o) ∧ It Tryz.prog 32 (w.alloc o) w.heap.size b l l := h.range under_tps
theorem range_top {w : World} {b : Nat} {l : List (Value × Value)} (h : Mp Tryz.prog 30 w b l) : ∃ o, (Instr.range 62 (.map (some b))).run Tryz.prog w = .ok (.pointer (some ⟨w.heap.size, 0, none⟩)) (w.alloc o) ∧ It Tryz.prog 30 (w.alloc o) w.heap.size b l l := h.range under_top
section
variable {fb gm : Nat} {G : List Grp} {lo lo0 : Nat} {fn : Nat} {caps : Array Value} {Q : List Tp → (Nat → Prop) → World → Prop} {X0 X : Nat → Prop} {w0 w w' : World} {done : List Tp}
/-- the walk's own blocks: made since, or its iterators, which are none of X -/
theorem Ev.own (T : Tells fb gm G lo0 fn caps Q) (h : Ev fb gm G lo Q X0 w0 w done X) (h0 : lo0 = w0.heap.size) (hfl : ∀ k, Fb fb gm G k → k < lo0) (hs : w.heap.size ≤ w'.heap.size) (ho : w'.os = w.os) (ht : w'.tape = w.tape) (hp : w'.output = w.output)
    (hb : ∀ k, k < w.heap.size → (k < lo0 ∨ X k) → w'.heap[k]? = w.heap[k]?) : Ev fb gm G lo Q X0 w0 w' done X :=
  ⟨h.fx.same fun k hk => by
      obtain ⟨h1, h2, h3⟩ := h.fx.lt
      refine hb k ?_ (.inl (hfl k hk))
      rcases hk with rfl | rfl | ⟨g, hg, rfl⟩
      · exact h1
      · exact h2
      · exact h3 g hg,
    T.stay _ _ _ _ h.q hs hb, h.sub, ⟨ho.trans h.turn.os, ht.trans h.turn.tape, hp.trans h.turn.output, Nat.le_trans h.turn.size hs, fun k hk hn => by
      have := h.turn.size
      exact (hb k (by omega) (.inl (by omega))).trans (h.turn.block k hk hn)⟩⟩
theorem Ev.below (T : Tells fb gm G lo0 fn caps Q) (h : Ev fb gm G lo Q X0 w0 w done X) (h0 : lo0 = w0.heap.size) (hfl : ∀ k, Fb fb gm G k → k < lo0) (hb : Below w.heap.size w w') : Ev fb gm G lo Q X0 w0 w' done X :=
  h.own T h0 hfl hb.size hb.os hb.tape hb.output fun k hk _ => hb.block k hk
/-- an iterator of its own goes on -/
theorem Ev.iter (T : Tells fb gm G lo0 fn caps Q) (h : Ev fb gm G lo Q X0 w0 w done X) (h0 : lo0 = w0.heap.size) (hfl : ∀ k, Fb fb gm G k → k < lo0) {r : Nat} (hr : lo0 ≤ r ∧ ¬ X r) (hb : w.grownBy w' (some r)) : Ev fb gm G lo Q X0 w0 w' done X :=
  h.own T h0 hfl hb.size hb.os hb.tape hb.output fun k hk hx => hb.block k hk fun e => by
    injection e with e
    subst e
    rcases hx with hx | hx
    · omega
    · exact hr.2 hx
/-- a tuple is told -/
theorem Ev.told (T : Tells fb gm G lo0 fn caps Q) (h : Ev fb gm G lo Q X0 w0 w done X) {t : Tp} {X' : Nat → Prop} (hq : Q (done ++ [t]) X' w') (hx : ∀ k, X' k → X k ∨ w.heap.size ≤ k) (ht : Turn X w w') : Ev fb gm G lo Q X0 w0 w' (done ++ [t]) X' :=
  ⟨h.fx.same fun k hk => by
      obtain ⟨h1, h2, h3⟩ := h.fx.lt
      refine ht.block k ?_ (fun q => (T.inb _ _ _ h.q k q).2 hk)
      rcases hk with rfl | rfl | ⟨g, hg, rfl⟩
      · exact h1
      · exact h2
      · exact h3 g hg,
    hq, fun k hk => by
      have := h.turn.size
      rcases hx k hk with q | q
      · exact h.sub k q
      · exact .inr (by omega),
    h.turn.trans ht fun k hk q => by
      rcases h.sub k q with q | q
      · exact q
      · omega⟩
end
theorem erase_tps {rest : List Tp} {j : Nat} {x v : Value} (h : (tpsL rest)[j]? = some (x, v)) : ∃ t, rest[j]? = some t ∧ x = .agg (tc t) ∧ v = .agg #[] ∧ (tpsL rest).eraseIdx j = tpsL (rest.eraseIdx j) := by
  unfold tpsL at h ⊢
  rw [List.getElem?_map] at h
  obtain ⟨t, ht, e⟩ := Option.map_eq_some_iff.1 h
  exact ⟨t, ht, (congrArg Prod.fst e).symm, (congrArg Prod.snd e).symm, (er_map _ _ _).symm⟩
theorem erase_top {rest : List Grp} {j : Nat} {x v : Value} (h : (topL rest)[j]? = some (x, v)) : ∃ g, rest[j]? = some g ∧ x = .agg (uc g.u) ∧ v = .map (some g.b) ∧ (topL rest).eraseIdx j = topL (rest.eraseIdx j) := by
  unfold topL at h ⊢
  rw [List.getElem?_map] at h
  obtain ⟨g, ht, e⟩ := Option.map_eq_some_iff.1 h
  exact ⟨g, ht, (congrArg Prod.fst e).symm, (congrArg Prod.snd e).symm, (er_map _ _ _).symm⟩
theorem perm_erase {α : Type} : ∀ {l : List α} {j : Nat} {x : α}, l[j]? = some x → (x :: l.eraseIdx j).Perm l
  | [], _, _, h => by simp at h
  | y :: l, 0, x, h => by
    simp only [List.getElem?_cons_zero, Option.some.injEq] at h
    subst h
    exact .refl _
  | y :: l, j + 1, x, h => by
    simp only [List.getElem?_cons_succ] at h
    exact (List.Perm.swap _ _ _).trans ((perm_erase h).cons y)
theorem alls_erase {rest : List Grp} {j : Nat} {g : Grp} (h : rest[j]? = some g) : (g.ts ++ alls (rest.eraseIdx j)).Perm (alls rest) := by
  have := (perm_erase h).flatMap_right (fun g : Grp => g.ts)
  simpa [alls] using this
set_option maxRecDepth 100000 in
set_option maxHeartbeats 12800000 in
theorem each_any {fb gm : Nat} {G : List Grp} {lo : Nat} {fn : Nat} {caps : Array Value} {Q : List Tp → (Nat → Prop) → World → Prop} {X0 : Nat → Prop} {w0 : World}
    (T : Tells fb gm G w0.heap.size fn caps Q) (h : Fx lo w0 fb gm G) (hq : Q [] X0 w0) :
    Calls Tryz.prog 40 #[.pointer (some ⟨fb, 0, none⟩), .func (.func fn) #[] caps] w0 fun e w' => e = .returned (.tuple #[]) ∧ ∃ done X, done.Perm (alls G) ∧ Ev fb gm G lo Q X0 w0 w' done X := by
  have hfl : ∀ k, Fb fb gm G k → k < w0.heap.size := by
    obtain ⟨h1, h2, h3⟩ := h.lt
    rintro k (rfl | rfl | ⟨g, hg, rfl⟩)
    · exact h1
    · exact h2
    · exact h3 g hg
  have eg := T.enter
  have hev : Ev fb gm G lo Q X0 w0 w0 [] X0 := ⟨h, hq, fun k hk => .inl hk, Turn.refl _ _⟩
  obtain ⟨o, hrun, hit⟩ := range_top h.top
  have hc : w0.cell? ⟨fb, 0, none⟩ = some (.map (some gm)) := by simp [World.cell?, h.box]
  have b1 := al w0 o
  have hev1 := hev.below T rfl hfl b1
  have hX1 : ¬ X0 w0.heap.size := fun q => by have := (T.inb _ _ _ hq _ q).1; omega
  obtain ⟨w1, hw1⟩ : ∃ v, v = w0.alloc o := ⟨_, rfl⟩
  obtain ⟨r1, hr1⟩ : ∃ v, v = w0.heap.size := ⟨_, rfl⟩
  obtain ⟨lo0, hlo0⟩ : ∃ v, v = w0.heap.size := ⟨_, rfl⟩
  rw [← hw1, ← hr1] at hit hrun
  rw [← hw1] at hev1
  rw [← hr1] at hX1
  have HFL := Lib.hid hfl
  have HEV := Lib.hid hev1
  have HIT := Lib.hid hit
  have HX1 := Lib.hid hX1
  have HR1 := Lib.hid hr1
  clear hfl hev b1 hev1 hit hX1 hw1 hr1 h hq
  go_enter Tryz.func40, Tryz.ntmps40
  go_wp2_with fail
  clear hrun hc
  go_loopg [12] G.length (fun kx _ wr => ∃ (rest : List Grp) (done : List Tp) (X : Nat → Prop), rest.length ≤ kx ∧ (∀ g ∈ rest, g ∈ G) ∧ (done ++ alls rest).Perm (alls G) ∧ It Tryz.prog 30 wr r1 gm (topL G) (topL rest) ∧ ¬ X r1 ∧ Ev fb gm G lo Q X0 w0 wr done X)
  case atStart => exact ⟨G, [], X0, Nat.le_refl _, fun _ q => q, by simp, HIT.out, HX1.out, HEV.out⟩
  case round =>
    obtain ⟨rest, done, X, hk, hsub, hperm, hit, hx, hev⟩ := hrel
    have HEV2 := Lib.hid hev
    have HK := Lib.hid hk
    have HSUB := Lib.hid hsub
    have HP := Lib.hid hperm
    have HX2 := Lib.hid hx
    rcases hit.next 0 with ⟨hnil, hrun⟩ | ⟨j, x, v, w2, hj, hrun, hit2, hg2, hsz2, hent⟩
    · have hrest : rest = [] := by unfold topL at hnil; simpa using hnil
      have HRE := Lib.hid hrest
      clear hit hnil hrest hev hk hsub hperm hx
      go_wp2_with fail
      go_end0
      have hp := HP.out
      rw [HRE.out] at hp
      exact ⟨rfl, done, X, by simpa [alls] using hp, HEV2.out⟩
    · obtain ⟨g, hrg, rfl, rfl, her⟩ := erase_top hj
      have hgr : g ∈ rest := List.mem_of_getElem? hrg
      have hgG := hsub g hgr
      have hev2 := hev.iter T rfl HFL.out (r := r1) ⟨by rw [HR1.out]; exact Nat.le_refl _, hx⟩ hg2
      rw [her] at hit2
      obtain ⟨o2, hrun2, hitb⟩ := range_tps (hev2.fx.each g hgG)
      have b3 := al w2 o2
      have hev3 := hev2.below T rfl HFL.out b3
      have hit3 := hit2.same (b3.block gm hit2.mp.lt) (b3.block r1 hit2.ltr)
      have hx2 : ¬ X w2.heap.size := fun q => by have := (T.inb _ _ _ hev2.q _ q).1; omega
      have hr2 : w0.heap.size ≤ w2.heap.size := hev2.turn.size
      obtain ⟨w3, hw3⟩ : ∃ v, v = w2.alloc o2 := ⟨_, rfl⟩
      obtain ⟨r2, hr2e⟩ : ∃ v, v = w2.heap.size := ⟨_, rfl⟩
      obtain ⟨gb, hgb⟩ : ∃ v, v = g.b := ⟨_, rfl⟩
      rw [← hw3, ← hr2e] at hitb hrun2
      rw [← hw3] at hev3 hit3
      rw [← hr2e] at hx2 hr2
      rw [← hgb] at hitb hrun2 hent hrun
      have HEV3 := Lib.hid hev3
      have HITB := Lib.hid hitb
      have HIT3 := Lib.hid hit3
      have HXR := Lib.hid (And.intro hx hx2)
      have HR2 := Lib.hid hr2
      have HGG := Lib.hid hgG
      have HRG := Lib.hid hrg
      have HGB := Lib.hid hgb
      clear hit hev hk hsub hperm hx hj hit2 hg2 hsz2 her hgr hgG hev2 hitb b3 hev3 hit3 hx2 hr2 hw3 hr2e hrg hgb
      go_wp2_with fail
      clear hrun hent hrun2
      go_loopg [18] g.ts.length (fun kx _ wr => ∃ (rest2 d2 : List Tp) (X2 : Nat → Prop), rest2.length ≤ kx ∧ (∀ t ∈ rest2, t ∈ g.ts) ∧ (d2 ++ rest2).Perm g.ts ∧ It Tryz.prog 32 wr r2 gb (tpsL g.ts) (tpsL rest2) ∧ It Tryz.prog 30 wr r1 gm (topL G) (topL (rest.eraseIdx j)) ∧ ¬ X2 r1 ∧ ¬ X2 r2 ∧ Ev fb gm G lo Q X0 w0 wr (done ++ d2) X2)
      case atStart => exact ⟨g.ts, [], X, Nat.le_refl _, fun _ q => q, by simp, HITB.out, HIT3.out, HXR.out.1, HXR.out.2, by simpa using HEV3.out⟩
      case round =>
        obtain ⟨rest2, d2, X2, hk, hsub, hperm, hitb, hita, hxa, hxb, hev⟩ := hrel
        have HEVI := Lib.hid hev
        have HKI := Lib.hid hk
        have HSUBI := Lib.hid hsub
        have HPI := Lib.hid hperm
        have HXI := Lib.hid (And.intro hxa hxb)
        have HITA := Lib.hid hita
        rcases hitb.next 0 with ⟨hnil, hrun⟩ | ⟨j2, x, v, w4, hj, hrun, hitb2, hg2, hsz2, hent⟩
        · have hrest : rest2 = [] := by unfold tpsL at hnil; simpa using hnil
          have HRE := Lib.hid hrest
          clear hitb hita hnil hrest hev hk hsub hperm hxa hxb
          go_wp2_with fail
          go_roundg (rest.eraseIdx j).length
          case measure =>
            have h1 := HK.out
            have h2 := (List.getElem?_eq_some_iff.1 HRG.out).1
            rw [List.length_eraseIdx, if_pos h2]
            omega
          case rel =>
            refine ⟨rest.eraseIdx j, done ++ d2, X2, Nat.le_refl _, fun g' hg' => HSUB.out g' (List.mem_of_mem_eraseIdx hg'), ?_, HITA.out, HXI.out.1, HEVI.out⟩
            have hp2 := HPI.out
            rw [HRE.out, List.append_nil] at hp2
            rw [List.append_assoc]
            exact ((hp2.append_right _).trans (alls_erase HRG.out)).append_left done |>.trans HP.out
        · obtain ⟨t, hrt, rfl, rfl, her⟩ := erase_tps hj
          have htr : t ∈ rest2 := List.mem_of_getElem? hrt
          have htG : t ∈ alls G := mem_alls.2 ⟨g, HGG.out, hsub t htr⟩
          have hev2 := hev.iter T rfl HFL.out (r := r2) ⟨HR2.out, hxb⟩ hg2
          have hita2 := hita.same (hg2.block gm hita.mp.lt (fun e => by
            injection e with e
            have h1 := (HFL.out gm (.inr (.inl rfl)))
            have h2 := HR2.out
            omega)) (hg2.block r1 hita.ltr (fun e => by
            injection e with e
            obtain ⟨_, es1, c1, s1, n1, q1, _, _, _, h1, _⟩ := hita
            obtain ⟨_, es2, c2, s2, n2, q2, _, _, _, h2, _⟩ := hitb
            rw [e, h2] at h1
            injection h1 with h1
            injection h1 with h1
            have h3 := (HFL.out gm (.inr (.inl rfl)))
            exact hev.fx.ne g HGG.out (by rw [← HGB.out]; first | exact h1 | exact h1.symm | (injection h1) | (injection h1.symm))))
          rw [her] at hitb2
          obtain ⟨w5, hw5⟩ : ∃ v, v = w4.alloc (.cells #[.string t.k, .string t.i, .string t.r, .string t.u.k, .string t.u.i, .string t.u.r] 32) := ⟨_, rfl⟩
          have b5 : Below w4.heap.size w4 w5 := by rw [hw5]; exact al _ _
          obtain ⟨tb, htb⟩ : ∃ v, v = w4.heap.size := ⟨_, rfl⟩
          have a5 : w5.heap[tb]? = some (.cells #[.string t.k, .string t.i, .string t.r, .string t.u.k, .string t.u.i, .string t.u.r] 32 (0, 0)) := by rw [hw5, htb]; exact heap_alloc_new w4 _
          obtain ⟨c0, c1, c2, c3, c4, c5⟩ := six_at a5
          have hev5 := hev2.below T rfl HFL.out b5
          have hlen : ((done ++ d2) ++ [t]).length ≤ (alls G).length := by
            have h1 := HP.out.length_eq
            have h2 := (alls_erase HRG.out).length_eq
            have h3 := hperm.length_eq
            have h4 := (List.getElem?_eq_some_iff.1 hrt).1
            simp only [List.length_append, List.length_cons, List.length_nil] at h1 h2 h3 ⊢
            omega
          have hcall := T.step _ _ _ t hev5.q htG hlen
          unfold tc at hcall hent hrun
          have HEV5 := Lib.hid hev5
          have HITB5 := Lib.hid (hitb2.same (b5.block gb hitb2.mp.lt) (b5.block r2 hitb2.ltr))
          have HITA5 := Lib.hid (hita2.same (b5.block gm hita2.mp.lt) (b5.block r1 hita2.ltr))
          have HRT := Lib.hid hrt
          have HW5 := Lib.hid hw5
          have HTB := Lib.hid htb
          have HL5 := Lib.hid (And.intro (And.intro (hitb2.same (b5.block gb hitb2.mp.lt) (b5.block r2 hitb2.ltr)).ltr (hita2.same (b5.block gm hita2.mp.lt) (b5.block r1 hita2.ltr)).ltr) (T.inb _ _ _ hev5.q))
          clear hitb hita hev hk hsub hperm hxa hxb hj her htr htG hev2 hita2 hitb2 hg2 hsz2 hw5 htb b5 a5 hev5 hlen hrt
          go_upto_region 6 with fail
          rw [← HW5.out, ← HTB.out]
          clear hrun hent
          go_wp2_with (go_at_fn fn; refine hcall.mono ?_; rintro e w6 ⟨rfl, X3, hq3, hx3, ht3⟩)
          clear hcall c0 c1 c2 c3 c4 c5
          have hev6 := HEV5.out.told T hq3 hx3 ht3
          have HEV6 := Lib.hid hev6
          have n1 : ¬ X2 r1 := HXI.out.1
          have n2 : ¬ X2 r2 := HXI.out.2
          have m1 : ¬ X3 r1 := fun q => (hx3 r1 q).elim n1 (fun h => by have := HL5.out.1.2; omega)
          have m2 : ¬ X3 r2 := fun q => (hx3 r2 q).elim n2 (fun h => by have := HL5.out.1.1; omega)
          have HM := Lib.hid (And.intro m1 m2)
          have HITB6 := Lib.hid (HITB5.out.same (ht3.block gb HITB5.out.mp.lt (fun q => (HL5.out.2 _ q).2 (.inr (.inr ⟨g, HGG.out, HGB.out⟩)))) (ht3.block r2 HITB5.out.ltr n2))
          have HITA6 := Lib.hid (HITA5.out.same (ht3.block gm HITA5.out.mp.lt (fun q => (HL5.out.2 _ q).2 (.inr (.inl rfl)))) (ht3.block r1 HITA5.out.ltr n1))
          clear hev6 n1 n2 m1 m2 hq3 hx3 ht3
          go_roundg (rest2.eraseIdx j2).length
          case measure =>
            have h1 := HKI.out
            have h2 := (List.getElem?_eq_some_iff.1 HRT.out).1
            rw [List.length_eraseIdx, if_pos h2]
            omega
          case rel =>
            refine ⟨rest2.eraseIdx j2, d2 ++ [t], X3, Nat.le_refl _, fun s hs => HSUBI.out s (List.mem_of_mem_eraseIdx hs), ?_, HITB6.out, HITA6.out, HM.out.1, HM.out.2, by rw [← List.append_assoc]; exact HEV6.out⟩
            rw [List.append_assoc]
            exact ((perm_erase HRT.out).append_left d2).trans HPI.out
end Go.Proofs.YtilcnhdfdgmekaaGreat.FactsEach
