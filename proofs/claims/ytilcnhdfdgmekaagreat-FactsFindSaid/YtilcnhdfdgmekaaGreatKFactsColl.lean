/- FactsKeys, FactsColl. -/
import Derived.Test.YtilcnhdfdgmekaaGreatKFactsSame
import Derived.LoopIn
import Derived.LoopNIn
import Derived.OwnWalkIn
import Derived.RangeFuncBound
import Derived.RangeFuncCalls
import Derived.RangeFuncFrom
import Derived.RangeFuncGives
import Derived.RangeFuncLeaves
import Derived.RangeFuncNested
import Derived.Shelf.AbstractIn
import Derived.Sort.LoopGhostIn
import Derived.TacticsInMore
import Derived.WalkKit
namespace Go.Proofs.YtilcnhdfdgmekaaGreat.FactsKeys
open Go.RowKit Base KeyPlain TuplePlain TupleRef TupleSpec TupleCut FMap FactsPlain FactsMem FactsHas FactsEach FactsUsersOf FactsPeo TurnB RowN

theorem It.walks {P : Program} {k : TypeId} {w w' : World} {r b : Nat} {l todo : List (Value × Value)} (h : It P k w r b l todo) (hk : KeepsWalks w w') : It P k w' r b l todo := by
  obtain ⟨h0, es, clock, since, seen, c0, hb, h2, hn, hr, h5⟩ := h
  exact ⟨h0.same ((hk.same b _ hb rfl).trans hb.symm), es, clock, since, seen, c0, hk.same b _ hb rfl, h2, hn, hk.same r _ hr rfl, h5⟩
theorem It.iter_walk {P : Program} {k : TypeId} {w : World} {r b : Nat} {l todo : List (Value × Value)} (h : It P k w r b l todo) : ∃ o : Obj, w.heap[r]? = some o ∧ o.isWalk = true := by
  obtain ⟨h0, es, clock, since, seen, c0, hb, h2, hn, hr, h5⟩ := h
  exact ⟨_, hr, rfl⟩
theorem erase_us {rest : List Us} {j : Nat} {x v : Value} (h : (usL rest)[j]? = some (x, v)) : ∃ t, rest[j]? = some t ∧ x = .agg (uc t) ∧ v = .agg #[] ∧ (usL rest).eraseIdx j = usL (rest.eraseIdx j) := by
  unfold usL at h ⊢
  rw [List.getElem?_map] at h
  obtain ⟨t, ht, e⟩ := Option.map_eq_some_iff.1 h
  exact ⟨t, ht, (congrArg Prod.fst e).symm, (congrArg Prod.snd e).symm, (er_map _ _ _).symm⟩
theorem range_us {w : World} {b : Nat} {l : List (Value × Value)} (h : Mp Tryz.prog 30 w b l) : ∃ o, (Instr.range 85 (.map (some b))).run Tryz.prog w = .ok (.pointer (some ⟨w.heap.size, 0, none⟩)) (w.alloc o) ∧ It Tryz.prog 30 (w.alloc o) w.heap.size b l l := h.range under_ps
def KeysPost (us : List Us) (J : List Us → World → Prop) (e : Ending) (W' : World) : Prop := (∃ v, e = .returned v) ∧ ∃ xs, xs.Perm us ∧ J xs W'
set_option maxRecDepth 100000 in
set_option maxHeartbeats 3200000 in
theorem ukeys_in (n : Nat) (hn : 1 ≤ n) (l B b : Nat) (us : List Us) (J : List Us → World → Prop)
    (hY : ∀ pre x W, J pre W → pre.length < us.length → YieldAt Fence.wide (n - 1) Tryz.prog l #[.agg (uc x)] W fun e W' => e = .returned (.bool true) ∧ J (pre ++ [x]) W' ∧ KeepsWalks W W')
    (W : World) (hJ : AbidesFrom W.heap.size J) (hm : W.cell? ⟨B, 0, none⟩ = some (.map (some b))) (hown : Mp Tryz.prog 30 W b (usL us)) (h0 : J [] W) :
    CallsIn Fence.wide n Tryz.prog 71 #[.func (.yield l) #[] #[], .pointer (some ⟨B, 0, none⟩)] W (KeysPost us J) := by
  obtain ⟨o, hrange, hit⟩ := range_us hown
  have hJ0 := hJ [] W (W.alloc o) none h0 (World.grownBy_alloc W o none) (fun r e => by cases e)
  obtain ⟨w1, hw1⟩ : ∃ v, v = W.alloc o := ⟨_, rfl⟩
  obtain ⟨r1, hr1⟩ : ∃ v, v = W.heap.size := ⟨_, rfl⟩
  rw [← hw1, ← hr1] at hrange hit
  rw [← hw1] at hJ0
  have HIT := Lib.hid hit
  have HJ0 := Lib.hid hJ0
  have HJA := Lib.hid hJ
  have HR1 := Lib.hid hr1
  have HN := Lib.hid hn
  clear hit hJ0 hw1 hr1 hown h0 hJ
  refine callsIn_of_wp Tryz.func71 rfl trivial ?_ rfl
  simp only [Tryz.ntmps71, List.size_toArray, List.length_cons, List.length_nil, Nat.reduceAdd, Nat.reduceSub, Array.replicate_succ, Array.replicate_zero, List.push_toArray, List.append_toArray, List.nil_append, List.cons_append]
  gi_wp2
  clear hrange hm
  gi_loopg [3] us.length (fun kx _ wr => ∃ (rest done : List Us), rest.length ≤ kx ∧ (done ++ rest).Perm us ∧ It Tryz.prog 30 wr r1 b (usL us) (usL rest) ∧ J done wr)
  case atStart => exact ⟨us, [], Nat.le_refl _, by simp, HIT.out, HJ0.out⟩
  case round =>
    obtain ⟨rest, done, hk, hperm, hit, hj⟩ := hrel
    have HK := Lib.hid hk
    have HP := Lib.hid hperm
    rcases hit.next 0 with ⟨hnil, hrun⟩ | ⟨j, x, v, w2, hjx, hrun, hit2, hg2, hsz2, hent⟩
    · have hrest : rest = [] := by unfold usL at hnil; simpa using hnil
      rw [hrest, List.append_nil] at hperm
      have HF := Lib.hid (show KeysPost us J (.returned (.tuple #[])) wr from ⟨⟨_, rfl⟩, done, hperm, hj⟩)
      clear hit hnil hrest hk hperm hj
      gi_wp2
      go_end0
      exact HF.out
    · obtain ⟨t, hrt, rfl, rfl, her⟩ := erase_us hjx
      rw [her] at hit2
      have hlt : done.length < us.length := by
        have h1 := hperm.length_eq
        have h2 := (List.getElem?_eq_some_iff.1 hrt).1
        rw [List.length_append] at h1
        omega
      have hj2 : J done w2 := HJA.out done wr w2 (some r1) hj hg2 (fun r e => by cases e; exact ⟨by rw [HR1.out]; exact Nat.le_refl _, It.iter_walk hit⟩)
      have b5 : Below w2.heap.size w2 (w2.alloc (.cells #[.string t.k, .string t.i, .string t.r] 30)) := al _ _
      have hj5 : J done (w2.alloc (.cells #[.string t.k, .string t.i, .string t.r] 30)) := HJA.out done w2 _ none hj2 (World.grownBy_alloc w2 _ none) (fun r e => by cases e)
      have hit5 := hit2.same (b5.block b hit2.mp.lt) (b5.block r1 hit2.ltr)
      obtain ⟨fn, tmps, assign, body, hy, hR⟩ := hY done t _ hj5 hlt
      have HR := Lib.hid hR
      have HIT5 := Lib.hid hit5
      have HRT := Lib.hid hrt
      unfold uc at hent hrun hy
      clear hit hk hperm hj hjx hit2 hg2 hsz2 her hlt hj2 b5 hj5 hit5 hrt hR
      gi_wp2
      refine HR.out.mono ?_
      rintro e W3 ⟨rfl, hJ3, hk3⟩
      have HJ3 := Lib.hid hJ3
      have HIT3 := Lib.hid (It.walks HIT5.out hk3)
      clear hJ3 hk3 hy
      gi_wp2
      gi_roundg (rest.eraseIdx j).length
      case measure =>
        have h1 := HK.out
        have h2 := (List.getElem?_eq_some_iff.1 HRT.out).1
        rw [List.length_eraseIdx, if_pos h2]
        omega
      case rel =>
        refine ⟨rest.eraseIdx j, done ++ [t], Nat.le_refl _, ?_, HIT3.out, HJ3.out⟩
        rw [List.append_assoc]
        exact ((perm_erase HRT.out).append_left done).trans HP.out
/-- the iterator that maps.Keys hands back -/
theorem ukeys_gives (n : Nat) (hn : 1 ≤ n) (B b : Nat) (us : List Us) (w : World) (hB : B < w.heap.size) (hm : w.cell? ⟨B, 0, none⟩ = some (.map (some b))) (hown : Mp Tryz.prog 30 w b (usL us)) :
    SeqGives Fence.wide n Tryz.prog 71 #[.pointer (some ⟨B, 0, none⟩)] (fun u => .agg (uc u)) (fun xs => xs.Perm us) us.length w := fun l J W hW hJ hY h0 =>
  ukeys_in n hn l B b us J hY W hJ ((hW.cell (p := ⟨B, 0, none⟩) hB).trans hm) (hown.below hW hown.lt) h0
/-- how a round's body may be left -/
def KeyEnd {α : Type} (I : List α → World → Prop) (xs : List α) (W : World) : Exit → Act → World → Prop
  | .normal, _, W' => KeepsOthers W W' ∧ I xs W'
  | _, _, _ => False
set_option maxHeartbeats 1600000 in
theorem range_keys {α : Type} {P : Program} {g : Operand} {ps : Array Tmp} {assign body : Code} {Q : Exit → Act → World → Prop} {a : Act} {w : World} {n : Nat} (hn : 3 ≤ n) {gf : Nat} {lb : Array Value}
    (hg : a.eval g = .func (.func gf) #[] lb) (eg : ∀ args w, (callFunc gf args).run P w = .ok (.enter gf args) w) (hps : ps.size = 1) {enc : α → Value} {S : List α → Prop} {N : Nat}
    (hseq : SeqGives Fence.wide (n - 1) P gf lb enc S N w) (I : List α → World → Prop) (hI : OwnFrom w.heap.size I) (h0 : I [] w) (ob : α → Obj) (a₁ : α → Nat → Act)
    (hassign : ∀ (l : Nat) (x : α) (W : World) (K : Act → World → Prop), K (a₁ x W.heap.size) (W.alloc (ob x)) →
      assign.wpIn (Fence.wide.inRound l) (n - 1 - 1) P (Exit.then K (fun _ _ _ => False)) { tmps := (ps.zip #[enc x]).foldl (fun t (p, v) => t.setIfInBounds p v) a.tmps, defers := [] } W)
    (hbody : ∀ (l : Nat) (pre : List α) (x : α) (b : Nat) (W : World), I pre W → pre.length < N → W.heap[b]? = some (ob x) → w.heap.size ≤ b → body.wpIn (Fence.wide.inRound l) (n - 1 - 1) P (KeyEnd I (pre ++ [x]) W) (a₁ x b) W)
    (hdone : ∀ (D : Nat) (xs : List α) (W : World), w.heap.size ≤ D → S xs → I xs W → W.heap[D]? = some (.deferred (some [])) → Q .normal { a with defers := { target := .collected D, args := #[] } :: a.defers } W) :
    (Code.rangeFunc g ps assign body).wpIn Fence.wide n P Q a w := by
  refine wpIn_rangeFunc ?_
  intro fn hfn
  rw [show Fence.wide.round = none from rfl]
  obtain ⟨rec, hrec⟩ : ∃ rec : LoopState → Option Code → Loop, rec = fun st pe => { state := st, pending := pe, fn, tmps := a.tmps, params := ps, assign, body, defers := w.heap.size } := ⟨_, rfl⟩
  obtain ⟨W1, hW1⟩ : ∃ W1, (w.alloc (.deferred (some []))).alloc (.loop (rec .ready none)) = W1 := ⟨_, rfl⟩
  have hL1 : W1.heap[w.heap.size + 1]? = some (.loop (rec .ready none)) := by
    rw [← hW1]; have := World.alloc_heap_new (w.alloc (.deferred (some []))) (.loop (rec .ready none)); rwa [World.size_alloc] at this
  have hK1 : W1.heap[w.heap.size]? = some (.deferred (some [])) := by
    rw [← hW1]; exact (Below.heap_alloc _ _ _ (by simp)).trans (World.alloc_heap_new w _)
  have hI1 : I [] W1 := by rw [← hW1]; exact hI.alloc _ (hI.alloc _ h0)
  have hT1 : Below w.heap.size w W1 := by rw [← hW1]; exact Below.step (al _ _) (al _ _)
  have hz1 : w.heap.size + 1 < W1.heap.size := heap_lt hL1
  refine ⟨w.heap.size + 1, [{ target := .collected w.heap.size, args := #[] }], W1, { target := .fn (.func gf) lb, args := #[.func (.yield (w.heap.size + 1)) #[] #[]] }, W1, gf,
    #[.func (.yield (w.heap.size + 1)) #[] #[]] ++ lb, W1, ?_, ?_, ?_, ?_, fun _ => (by omega), ?_⟩
  · rw [← hW1, hrec]; exact run_enterLoop_outer _ _ _ _ _
  · simp only [resolve, hg]
    simp [go_sem]
  · intro f' _; trivial
  · simp [invoke, go_sem, eg]
  · refine (hseq (w.heap.size + 1)
      (fun pre W => I pre W ∧ W.heap[w.heap.size + 1]? = some (.loop (rec .ready none)) ∧ W.heap[w.heap.size]? = some (.deferred (some [])))
      W1 hT1
      (fun s A B row hs hg' hr => ⟨hI s A B row hs.1 hg' (fun r e => by obtain ⟨hB, o, ho, hw⟩ := hr r e; exact ⟨by omega, o, ho, Obj.not_cells_of_walk hw⟩), (grownBy_keeps hg' (fun r e => (hr r e).2) hs.2.1 rfl).trans hs.2.1, (grownBy_keeps hg' (fun r e => (hr r e).2) hs.2.2 rfl).trans hs.2.2⟩)
      ?_ ⟨hI1, hL1, hK1⟩).mono ?_
    · rintro pre x W ⟨hi, hl, hk⟩ hlen
      have hlt : w.heap.size + 1 < W.heap.size := heap_lt hl
      have hy := run_yield (P := P) (args := #[enc x]) hl (by rw [hrec]; simp [hps])
      rw [hrec] at hy
      obtain ⟨Wa, hWa⟩ : ∃ Wa, Wa = W.alloc (ob x) := ⟨_, rfl⟩
      have hla : Wa.heap[w.heap.size + 1]? = some (.loop (rec .ready none)) := by rw [hWa]; exact (Below.heap_alloc _ _ _ hlt).trans hl
      have hka : Wa.heap[w.heap.size]? = some (.deferred (some [])) := by rw [hWa]; exact (Below.heap_alloc _ _ _ (by omega)).trans hk
      have hba : Wa.heap[W.heap.size]? = some (ob x) := by rw [hWa]; exact World.alloc_heap_new W _
      have hia : I pre Wa := by rw [hWa]; exact hI.alloc _ hi
      have hwa : KeepsWalks W Wa := by rw [hWa]; exact KeepsWalks.alloc _ _
      refine ⟨fn, _, assign, body, hy, roundIn_of_wpIn hfn (hassign _ x W _ ?_)⟩
      rw [← hWa]
      refine ⟨_, run_beginRound hla (by rw [hrec]), ?_⟩
      obtain ⟨W2, hW2⟩ : ∃ W2, W2 = Wa.putObj (w.heap.size + 1) (.loop { rec .ready none with state := .busy }) := ⟨_, rfl⟩
      have hlta := heap_lt hla
      have hl2 : W2.heap[w.heap.size + 1]? = some (.loop { rec .ready none with state := .busy }) := by rw [hW2]; exact World.putObj_heap_same hlta
      have hk2 : W2.heap[w.heap.size]? = some (.deferred (some [])) := by rw [hW2]; exact (World.putObj_heap_other (by omega)).trans hka
      have hb2 : W2.heap[W.heap.size]? = some (ob x) := by rw [hW2]; exact (World.putObj_heap_other (by omega)).trans hba
      have hi2 : I pre W2 := by rw [hW2]; exact hI.putObj _ hia (by omega) hla rfl
      have hw2 : KeepsWalks W W2 := hwa.trans (by rw [hW2]; exact KeepsWalks.putObj _ hla rfl)
      rw [← hW2]
      refine wpIn_mono (hbody _ pre x _ W2 hi2 hlen hb2 (by omega)) ?_
      rintro e a3 W3 hp
      cases e with
      | normal =>
        obtain ⟨hkp, hi3⟩ := hp
        have hl3 := hkp.same _ _ hl2 rfl
        have hk3 := hkp.same _ _ hk2 rfl
        have hr := run_endRound (P := P) none hl3
        rw [hrec] at hr
        refine ⟨_, _, hr, rfl, ⟨hI.putObj _ hi3 (by omega) hl3 rfl, ?_, (World.putObj_heap_other (by omega)).trans hk3⟩, (hw2.trans hkp.walks).trans (KeepsWalks.putObj _ hl3 rfl)⟩
        rw [hrec]
        exact World.putObj_heap_same (heap_lt hl3)
      | ret => exact hp.elim
      | exit id => exact hp.elim
      | goto t => exact hp.elim
      | panic ch => exact hp.elim
      | outgrown => exact hp.elim
    · rintro e W2 ⟨⟨v, rfl⟩, xs, hS, hi, hl, hk⟩
      refine ⟨none, _, by have := run_endLoop (P := P) hl (by rw [hrec]; simp); rw [hrec] at this; exact this, hdone _ _ _ (Nat.le_refl _) hS (hI.putObj _ hi (by omega) hl rfl) ((World.putObj_heap_other (by omega)).trans hk)⟩
end Go.Proofs.YtilcnhdfdgmekaaGreat.FactsKeys
namespace Go.Proofs.YtilcnhdfdgmekaaGreat.FactsColl
open Go.RowKit Base KeyPlain TuplePlain TupleRef TupleSpec TupleCut FMap FactsPlain FactsMem FactsHas FactsEach FactsLess FactsUsersOf FactsPeo FactsKeys TurnB RowN
attribute [local go_sem] Oper.semAt_some

theorem wpListIn_append_run {F : Fence} {m : Nat} {P : Program} {w : World} {ops : Array Oper} {rest : List Oper} {o : Oper} {a : Act} {Q : Exit → Act → World → Prop} (hgd : o.guard = none) (s x : Operand) (t u : TypeId)
    (hop : o.op = Op.call { callee := Callee.builtin Builtin.append, args := #[s, x], argTypes := #[t, u] }) {vs vx v : Value} {w' : World} (hs : a.eval s = vs) (hx : a.eval x = vx)
    (hrun : (Builtin.append_ #[t, u] o.type #[vs, vx]).run P w = .ok v w') (h : wpListIn F m P ops Q rest (a.put o.dst v) w') : wpListIn F m P ops Q (o :: rest) a w := by
  refine wpListIn_plain hgd fun K hK => ?_
  unfold Oper.wpIn
  refine ⟨?_, ?_⟩
  · simp [Oper.about, hop, resolve, Target.leads, Sem.run_pure]
  · rw [Oper.semAt_plain F _ _ (by rw [hop]; intro c hc'; cases hc')]
    simp [execOp, hop, resolve, invoke, builtin, hs, hx, hrun, Result.andThen]
    exact hK _ _ h
theorem heap_set0 {W : World} {B : Nat} {v : Value} {t : TypeId} (h : W.heap[B]? = some (.cells #[v] t (0, 0))) (v' : Value) : (W.setCell ⟨B, 0, none⟩ v').heap[B]? = some (.cells #[v'] t (0, 0)) := by
  obtain ⟨hlt, hk⟩ := Array.getElem?_eq_some_iff.1 h
  show (W.heap.modify B _)[B]? = _
  rw [Array.getElem?_eq_getElem (by rw [Array.size_modify]; exact hlt), Array.getElem_modify_self, hk]
  rfl
/-- between two rounds -/
def At (w : World) (xs : List Us) (W : World) : Prop := ∃ A c k, k = xs.length ∧ W.heap[w.heap.size]? = some (.cells #[.slice A k c] 47 (0, 0)) ∧ W.ownsRow (w.heap.size + 1) 30 3 (.slice A k c) k (xs.flatMap encU) ∧ Below w.heap.size w W ∧ w.heap.size + 1 ≤ W.heap.size
theorem At.own {w : World} {B : Nat} (hB : w.heap.size ≤ B) : OwnFrom B (At w) := by
  rintro s W W' row ⟨A, c, k, h1, h2, h3, h4, h5⟩ hg hr
  have hr' : ∀ r, row = some r → ∃ o : Obj, W.heap[r]? = some o ∧ o.isCells = false := fun r e => (hr r e).2
  refine ⟨A, c, k, h1, (grownBy_keeps_cells hg hr' h2 rfl).trans h2, own_same h3 fun j hj => ?_, h4.grown hg h4.size (fun j e => Nat.le_trans hB (hr j e).1), Nat.le_trans h5 hg.size⟩
  rcases h3.2 with ⟨he, _⟩ | ⟨g, cap, cur, he, _, hgb, _⟩
  · rw [he] at hj; cases hj
  · rw [he] at hj
    have : g = j := by simpa [Value.ownBlock] using hj
    subst this
    exact grownBy_keeps_cells hg hr' hgb rfl
def CollPost (S : List Us → Prop) (w : World) (e : Ending) (w' : World) : Prop := ∃ A c n xs, e = .returned (.slice A n c) ∧ S xs ∧ n = xs.length ∧ w'.ownsRow (w.heap.size + 1) 30 3 (.slice A n c) n (xs.flatMap encU) ∧ Below w.heap.size w w'
set_option maxRecDepth 100000 in
set_option maxHeartbeats 6400000 in
theorem appendSeq_in (n : Nat) (hn : 3 ≤ n) (gf : Nat) (lb : Array Value) (eg : ∀ args w, (callFunc gf args).run Tryz.prog w = .ok (.enter gf args) w) (S : List Us → Prop) (N : Nat) (hN : N * 96 ≤ 140737488355328) (w : World)
    (hseq : SeqGives Fence.wide (n - 1) Tryz.prog gf lb (fun u => .agg (uc u)) S N w) :
    CallsIn Fence.wide n Tryz.prog 70 #[.slice none 0 0, .func (.func gf) #[] lb] w (CollPost S w) := by
  obtain ⟨W0, hW0⟩ : ∃ v, v = w.alloc (.cells #[.slice none 0 0] 47) := ⟨_, rfl⟩
  have b0 : Below w.heap.size w W0 := by rw [hW0]; exact al _ _
  have hs0 : W0.heap.size = w.heap.size + 1 := by rw [hW0]; simp
  have hv0 : W0.heap[w.heap.size]? = some (.cells #[.slice none 0 0] 47 (0, 0)) := by rw [hW0]; exact heap_alloc_new w _
  have HSEQ := Lib.hid (hseq.later b0)
  have HA := Lib.hid (show At w [] W0 from ⟨none, 0, 0, rfl, hv0, World.ownsRow_nil _ _ _ _, b0, by omega⟩)
  have HS0 := Lib.hid hs0
  have HW0 := Lib.hid hW0
  have HN := Lib.hid hN
  have HE := Lib.hid eg
  clear hW0 b0 hs0 hv0 hseq hN eg
  refine callsIn_of_wp_marks Tryz.func70 rfl trivial ?_ rfl
  simp only [Tryz.ntmps70, List.size_toArray, List.length_cons, List.length_nil, Nat.reduceAdd, Nat.reduceSub, Array.replicate_succ, Array.replicate_zero, List.push_toArray, List.append_toArray, List.nil_append, List.cons_append]
  gi_wp2
  rw [← HW0.out]
  refine range_keys (n := n) hn rfl HE.out rfl HSEQ.out (At w) (At.own (by rw [HS0.out]; omega)) HA.out (fun x => .cells (uc x) 30 (0, 0))
    (fun x b => { tmps := #[.slice none 0 0, .func (.func gf) #[] lb, .pointer (some ⟨w.heap.size, 0, none⟩), undef, .slice none 0 0, .pointer (some ⟨b, 0, none⟩), .func (.func gf) #[] lb, .agg (uc x), undef, undef, undef, undef, undef], defers := [] }) ?assign ?body ?done
  case assign =>
    intro l x W K hK
    unfold uc at hK ⊢
    gi_wp2
    exact hK
  case body =>
    rintro l pre x b W ⟨A, c, k, h1, h2, h3, h4, h5⟩ hlen hb hbl
    have hc : W.cell? ⟨w.heap.size, 0, none⟩ = some (.slice A k c) := by simp [World.cell?, h2]
    have hfz : W.frozen? ⟨w.heap.size, 0, none⟩ = false := by simp [World.frozen?, h2]
    unfold uc at hb
    have c0 : W.cell? ⟨b, 0, none⟩ = some (.string x.k) := by simp [World.cell?, hb]
    have c1 : W.cell? ⟨b, 0 + 1, none⟩ = some (.string x.i) := by simp [World.cell?, hb]
    have c2 : W.cell? ⟨b, 0 + 1 + 1, none⟩ = some (.string x.r) := by simp [World.cell?, hb]
    obtain ⟨w6, hw6⟩ : ∃ v, v = W.alloc (.cells #[.string x.k, .string x.i, .string x.r] 30) := ⟨_, rfl⟩
    have b6 : Below W.heap.size W w6 := by rw [hw6]; exact al _ _
    have hnr : Row w6 w6.heap.size (some ⟨W.heap.size, 0, none⟩) (encU x) := by rw [hw6]; exact (row_of_block (heap_alloc_new W _)).more (by simp)
    have hbn : k + 1 ≤ maxLen := by have := HN.out; unfold maxLen; omega
    have hby : (k + 1) * 48 ≤ 140737488355328 := by have := HN.out; omega
    have ho6 := own_same (w' := w6) h3 fun j hj => b6.block j (h3.lt j hj).2
    obtain ⟨A', c', w7, happ, ho7, hg7, hloc⟩ := run_append_n (c2 := 1) 47 elem_u (by decide) ho6 hnr (m := 1) rfl (by intro v hv; simp [encU, uc] at hv; rcases hv with rfl | rfl | rfl <;> rfl) hbn hby (Nat.le_trans h5 b6.size)
    have notown : ∀ j, j < w.heap.size + 1 → some j ≠ (Value.slice A k c).ownBlock := fun j hj e => by have := (h3.lt j e.symm).1; omega
    have hs7 := Nat.lt_of_lt_of_le (heap_lt h2) b6.size
    have h27 : w7.heap[w.heap.size]? = some (.cells #[.slice A k c] 47 (0, 0)) := (hg7.block _ hs7 (notown _ (by omega))).trans ((b6.block _ (heap_lt h2)).trans h2)
    have hc7 : w7.cell? ⟨w.heap.size, 0, none⟩ = some (.slice A k c) := by simp [World.cell?, h27]
    have hf7 : w7.frozen? ⟨w.heap.size, 0, none⟩ = false := by simp [World.frozen?, h27]
    have hown6 : ∀ j o, (Value.slice A k c).ownBlock = some j → w6.heap[j]? = some o → o.isCells = true := fun j o hj ho => by
      rcases ho6.2 with ⟨he, _⟩ | ⟨g, cap, cur, he, _, hgb, _⟩
      · rw [he] at hj; cases hj
      · rw [he] at hj
        have : g = j := by simpa [Value.ownBlock] using hj
        subst this
        rw [hgb] at ho
        cases ho
        rfl
    have hk : KeepsOthers W (w7.setCell ⟨w.heap.size, 0, none⟩ (.slice A' (k + 1) c')) := ((by rw [hw6]; exact KeepsOthers.alloc _ _ : KeepsOthers W w6).trans (KeepsOthers.of_grownBy hg7 hown6)).trans (KeepsOthers.setCell _ _ _)
    have hfin : At w (pre ++ [x]) (w7.setCell ⟨w.heap.size, 0, none⟩ (.slice A' (k + 1) c')) := by
      refine ⟨A', c', k + 1, by rw [h1]; simp, ?_, ?_, ?_, ?_⟩
      · exact heap_set0 h27 _
      · have : ((pre ++ [x]).flatMap encU) = pre.flatMap encU ++ encU x := by simp
        rw [this]
        exact own_same ho7 fun j hj => Below.heap_setCell _ _ _ _ (by have := (ho7.lt j hj).1; show j ≠ w.heap.size; omega)
      · exact ((Below.trans h4 (b6.mono h4.size)).grown hg7 (Nat.le_trans h4.size b6.size) (fun j e => by have := (h3.lt j e).1; omega)).setCell (p := ⟨w.heap.size, 0, none⟩) (Nat.le_refl _) _
      · have := hg7.size; have := b6.size; simp [World.setCell]; omega
    have HF := Lib.hid (And.intro hk hfin)
    have HW6 := Lib.hid hw6
    clear h1 h2 h3 h4 h5 hlen hb hbl b6 hnr hbn hby ho6 ho7 hg7 hloc notown hs7 h27 hown6 hk hfin hw6
    gi_wp2_with (first
      | (gi_at_builtin; refine wpListIn_append_run rfl (.tmp 8) (.tmp 10) 47 47 rfl rfl rfl (by rw [← HW6.out]; exact happ) ?_)
      | gi_in)
    exact HF.out
  case done =>
    rintro D xs W hD hS ⟨A, c, k, h1, h2, h3, h4, h5⟩ hK
    have hc : W.cell? ⟨w.heap.size, 0, none⟩ = some (.slice A k c) := by simp [World.cell?, h2]
    have HD := Lib.hid hD
    gi_wp2
    refine ⟨by simp, .inl ⟨_, _, rfl, run_takeDeferred hK, ?_⟩⟩
    have hg := grownBy_putObj' W D (.deferred none)
    have hne : ∀ j, (Value.slice A k c).ownBlock = some j → some j ≠ some D := fun j hj e => by
      injection e with e
      subst e
      rcases h3.2 with ⟨he, _⟩ | ⟨g, cap, cur, he, _, hgb, _⟩
      · rw [he] at hj; cases hj
      · rw [he] at hj
        have : g = j := by simpa [Value.ownBlock] using hj
        subst this
        rw [hgb] at hK
        cases hK
    exact ⟨_, results_tmp rfl _ _ _, A, c, k, xs, by rw [h1]; rfl, hS, h1, own_same h3 fun j hj => hg.block j (h3.lt j hj).2 (hne j hj), h4.grown hg h4.size (fun j e => by injection e with e; have := HD.out; have := HS0.out; omega)⟩
theorem coll_len {S : List Us → Prop} {n N : Nat} {gf : Nat} {lb : Array Value} {w : World} {enc : Us → Value} (h : SeqGives Fence.wide n Tryz.prog gf lb enc S N w) : SeqGives Fence.wide n Tryz.prog gf lb enc (fun xs => S xs ∧ xs.length ≤ N) N w := h.bounded
set_option maxHeartbeats 3200000 in
theorem collect_in (n : Nat) (hn : 4 ≤ n) (gf : Nat) (lb : Array Value) (eg : ∀ args w, (callFunc gf args).run Tryz.prog w = .ok (.enter gf args) w) (S : List Us → Prop) (N : Nat) (hN : N * 96 ≤ 140737488355328) (w : World)
    (hseq : SeqGives Fence.wide (n - 1 - 1) Tryz.prog gf lb (fun u => .agg (uc u)) S N w) :
    CallsIn Fence.wide n Tryz.prog 46 #[.func (.func gf) #[] lb] w (CollPost S w) := by
  have hcall := appendSeq_in (n - 1) (by omega) gf lb eg S N hN w hseq
  clear hseq eg hN
  have HN := Lib.hid hn
  clear hn
  refine callsIn_of_wp Tryz.func46 rfl trivial ?_ rfl
  simp only [Tryz.ntmps46, List.size_toArray, List.length_cons, List.length_nil, Nat.reduceAdd, Nat.reduceSub, Array.replicate_succ, Array.replicate_zero, List.push_toArray, List.append_toArray, List.nil_append, List.cons_append]
  gi_wp2
  refine ⟨trivial, fun _ => (by have := HN.out; omega), ?_⟩
  (with_reducible refine hcall.mono ?_)
  rintro e w' ⟨A, c, k, xs, rfl, h1, h2, h3, h4⟩
  have HF := Lib.hid (show CollPost S w (.returned (.slice A k c)) w' from ⟨A, c, k, xs, rfl, h1, h2, h3, h4⟩)
  clear h1 h2 h3 h4 hcall
  gi_wp2
  go_ret
  exact HF.out
set_option maxHeartbeats 3200000 in
theorem mapsKeys_in (n : Nat) (mb : Nat) (w : World) : CallsIn Fence.wide n Tryz.prog 47 #[.map (some mb)] w fun e w' =>
    e = .returned (.func (.func 71) #[] #[.pointer (some ⟨w.heap.size, 0, none⟩)]) ∧ w' = w.alloc (.cells #[.map (some mb)] 85) := by
  refine callsIn_of_wp Tryz.func47 rfl trivial ?_ rfl
  simp only [Tryz.ntmps47, List.size_toArray, List.length_cons, List.length_nil, Nat.reduceAdd, Nat.reduceSub, Array.replicate_succ, Array.replicate_zero, List.push_toArray, List.append_toArray, List.nil_append, List.cons_append]
  gi_wp2
  go_ret
  exact ⟨rfl, rfl⟩
end Go.Proofs.YtilcnhdfdgmekaaGreat.FactsColl
