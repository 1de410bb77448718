/- The names of a kind's objects, in their order. -/
import Derived.Test.YtilcnhdfdgmekaaGreatKFactsObj
import Derived.Test.YtilcnhdfdgmekaaGreatKIter
import Derived.Shelf.SlIter.Sorted
import Derived.Sort.Walk0
namespace Go.Proofs.YtilcnhdfdgmekaaGreat.FactsNames
open Go.RowKit Base KeyPlain TuplePlain TupleRef TupleSpec TupleCut FMap FactsPlain FactsMem FactsHas FactsNew FactsEach FactsKeys FactsObj TurnB RowN

def NamesQ (lo kb bx mb : Nat) (kind : ByteArray) (done : List Tp) (X : Nat → Prop) (w : World) : Prop :=
  lo ≤ w.heap.size ∧ w.heap[kb]? = some (.cells #[.string kind] 9 (0, 0)) ∧ w.heap[bx]? = some (.cells #[.map (some mb)] 77 (0, 0)) ∧ (∀ k, X k ↔ k = mb) ∧ ∃ ss, Mp Tryz.prog 9 w mb (ssL ss) ∧ ∀ s, s ∈ ss ↔ s ∈ names done kind
theorem names_one (done : List Tp) (t : Tp) (kind s : ByteArray) : s ∈ names (done ++ [t]) kind ↔ s ∈ names done kind ∨ ∃ u ∈ [t.obj, t.u], u.k = kind ∧ u.i = s := by
  unfold names
  rw [List.flatMap_append, List.mem_append]
  refine or_congr Iff.rfl ?_
  have e1 : t.obj.k = t.k := rfl
  have e2 : t.obj.i = t.i := rfl
  simp only [List.flatMap_cons, List.flatMap_nil, List.append_nil, List.mem_append, List.mem_cons, List.not_mem_nil, or_false]
  constructor
  · rintro (h | h)
    · split at h
      · next hk => exact ⟨t.obj, .inl rfl, by rw [e1]; exact hk, by rw [e2]; exact (List.mem_singleton.1 h).symm⟩
      · simp at h
    · split at h
      · next hk => exact ⟨t.u, .inr rfl, hk, by exact (List.mem_singleton.1 h).symm⟩
      · simp at h
  · rintro ⟨u, rfl | rfl, h1, h2⟩
    · rw [e1] at h1
      rw [e2] at h2
      exact .inl (by rw [if_pos h1]; simp [h2])
    · exact .inr (by rw [if_pos h1]; simp [h2])
theorem names_tells {fb gm : Nat} {G : List Grp} {lo kb bx mb : Nat} {kind : ByteArray} (hT : ∀ t ∈ alls G, TpF t) (hF : ∀ k, Fb fb gm G k → k < lo ∧ k ≠ mb) (hkb : kb < lo) (hbx : bx < lo) (hmb : mb < lo) (hn1 : kb ≠ mb) (hn2 : bx ≠ mb) :
    Tells fb gm G lo 41 #[.pointer (some ⟨kb, 0, none⟩), .pointer (some ⟨bx, 0, none⟩)] (NamesQ lo kb bx mb kind) where
  enter := enters_of Tryz.func41 (by kernel_rfl) rfl
  stay := fun done X w w' h hs hb => by
    obtain ⟨h1, h0, h2, h3, us, h4, h5⟩ := h
    exact ⟨Nat.le_trans h1 hs, (hb _ (heap_lt h0) (.inl hkb)).trans h0, (hb _ (heap_lt h2) (.inl hbx)).trans h2, h3, us, h4.same (hb _ h4.lt (.inl hmb)), h5⟩
  inb := fun done X w h k hk => by
    obtain ⟨h1, h0, h2, h3, us, h4, h5⟩ := h
    rw [(h3 k).1 hk]
    exact ⟨h4.lt, fun e => (hF _ e).2 rfl⟩
  step := fun done X w t h ht hl => by
    obtain ⟨h1, h0, h2, h3, us, h4, h5⟩ := h
    refine (obj_any h0 h2 h4 t (hT t ht)).mono ?_
    rintro e w' ⟨rfl, ⟨us', g1, g2⟩, g3⟩
    refine ⟨rfl, fun k => k = mb, ⟨Nat.le_trans h1 g3.size, (g3.block _ (heap_lt h0) hn1).trans h0, (g3.block _ (heap_lt h2) hn2).trans h2, fun k => Iff.rfl, us', g1, fun u => ?_⟩, fun k hk => .inl ((h3 k).2 hk), g3.mono fun k _ hk => (h3 k).2 hk⟩
    rw [g2, h5, names_one]
theorem erase_ss {rest : List ByteArray} {j : Nat} {x v : Value} (h : (ssL rest)[j]? = some (x, v)) : ∃ t, rest[j]? = some t ∧ x = .string t ∧ v = .agg #[] ∧ (ssL rest).eraseIdx j = ssL (rest.eraseIdx j) := by
  unfold ssL at h ⊢
  rw [List.getElem?_map] at h
  obtain ⟨t, ht, e⟩ := Option.map_eq_some_iff.1 h
  exact ⟨t, ht, (congrArg Prod.fst e).symm, (congrArg Prod.snd e).symm, (er_map _ _ _).symm⟩
theorem range_ss {w : World} {b : Nat} {l : List (Value × Value)} (h : Mp Tryz.prog 9 w b l) : ∃ o, (Instr.range 77 (.map (some b))).run Tryz.prog w = .ok (.pointer (some ⟨w.heap.size, 0, none⟩)) (w.alloc o) ∧ It Tryz.prog 9 (w.alloc o) w.heap.size b l l := h.range under_ss
theorem str_bl (s : ByteArray) : Value.string s = encStr (bl s) := rfl
def SKeysPost (ss : List ByteArray) (J : List (List UInt8) → World → Prop) (e : Ending) (W' : World) : Prop := (∃ v, e = .returned v) ∧ ∃ xs, xs.Perm (ss.map bl) ∧ J xs W'
set_option maxRecDepth 100000 in
set_option maxHeartbeats 3200000 in
theorem skeys_in (n : Nat) (hn : 1 ≤ n) (l B b : Nat) (us : List ByteArray) (J : List (List UInt8) → World → Prop)
    (hY : ∀ pre x W, J pre W → pre.length < us.length → YieldAt Fence.wide (n - 1) Tryz.prog l #[encStr x] W fun e W' => e = .returned (.bool true) ∧ J (pre ++ [x]) W' ∧ KeepsWalks W W')
    (W : World) (hJ : AbidesFrom W.heap.size J) (hm : W.cell? ⟨B, 0, none⟩ = some (.map (some b))) (hown : Mp Tryz.prog 9 W b (ssL us)) (h0 : J [] W) :
    CallsIn Fence.wide n Tryz.prog 68 #[.func (.yield l) #[] #[], .pointer (some ⟨B, 0, none⟩)] W (SKeysPost us J) := by
  obtain ⟨o, hrange, hit⟩ := range_ss hown
  have hJ0 := hJ [] W (W.alloc o) none h0 (World.grownBy_alloc W o none) (fun r e => by cases e)
  obtain ⟨w1, hw1⟩ : ∃ v, v = W.alloc o := ⟨_, rfl⟩
  obtain ⟨r1, hr1⟩ : ∃ v, v = W.heap.size := ⟨_, rfl⟩
  rw [← hw1, ← hr1] at hrange hit
  rw [← hw1] at hJ0
  have HIT := Lib.hid hit
  have HJ0 := Lib.hid hJ0
  have HJA := Lib.hid hJ
  have HR1 := Lib.hid hr1
  have HN := Lib.hid hn
  clear hit hJ0 hw1 hr1 hown h0 hJ
  refine callsIn_of_wp Tryz.func68 rfl trivial ?_ rfl
  simp only [Tryz.ntmps68, List.size_toArray, List.length_cons, List.length_nil, Nat.reduceAdd, Nat.reduceSub, Array.replicate_succ, Array.replicate_zero, List.push_toArray, List.append_toArray, List.nil_append, List.cons_append]
  gi_wp2
  clear hrange hm
  gi_loopg [3] us.length (fun kx _ wr => ∃ (rest : List ByteArray) (done : List (List UInt8)), rest.length ≤ kx ∧ (done ++ rest.map bl).Perm (us.map bl) ∧ It Tryz.prog 9 wr r1 b (ssL us) (ssL rest) ∧ J done wr)
  case atStart => exact ⟨us, [], Nat.le_refl _, by simp, HIT.out, HJ0.out⟩
  case round =>
    obtain ⟨rest, done, hk, hperm, hit, hj⟩ := hrel
    have HK := Lib.hid hk
    have HP := Lib.hid hperm
    rcases hit.next 0 with ⟨hnil, hrun⟩ | ⟨j, x, v, w2, hjx, hrun, hit2, hg2, hsz2, hent⟩
    · have hrest : rest = [] := by unfold ssL at hnil; simpa using hnil
      rw [hrest, List.map_nil, List.append_nil] at hperm
      have HF := Lib.hid (show SKeysPost us J (.returned (.tuple #[])) wr from ⟨⟨_, rfl⟩, done, hperm, hj⟩)
      clear hit hnil hrest hk hperm hj
      gi_wp2
      go_end0
      exact HF.out
    · obtain ⟨t, hrt, rfl, rfl, her⟩ := erase_ss hjx
      rw [her] at hit2
      have hlt : done.length < us.length := by
        have h1 := hperm.length_eq
        have h2 := (List.getElem?_eq_some_iff.1 hrt).1
        rw [List.length_append, List.length_map, List.length_map] at h1
        omega
      have hj2 : J done w2 := HJA.out done wr w2 (some r1) hj hg2 (fun r e => by cases e; exact ⟨by rw [HR1.out]; exact Nat.le_refl _, It.iter_walk hit⟩)
      obtain ⟨fn, tmps, assign, body, hy, hR⟩ := hY done (bl t) w2 hj2 hlt
      rw [← str_bl] at hy
      have HR := Lib.hid hR
      have HIT5 := Lib.hid hit2
      have HRT := Lib.hid hrt
      clear hit hk hperm hj hjx hit2 hg2 hsz2 her hlt hj2 hrt hR
      gi_wp2
      refine HR.out.mono ?_
      rintro e W3 ⟨rfl, hJ3, hk3⟩
      have HJ3 := Lib.hid hJ3
      have HIT3 := Lib.hid (It.walks HIT5.out hk3)
      clear hJ3 hk3 hy
      gi_wp2
      gi_roundg (rest.eraseIdx j).length
      case measure =>
        have h1 := HK.out
        have h2 := (List.getElem?_eq_some_iff.1 HRT.out).1
        rw [List.length_eraseIdx, if_pos h2]
        omega
      case rel =>
        refine ⟨rest.eraseIdx j, done ++ [bl t], Nat.le_refl _, ?_, HIT3.out, HJ3.out⟩
        rw [List.append_assoc]
        exact (((perm_erase HRT.out).map bl).append_left done).trans HP.out
theorem skeys_gives (n : Nat) (hn : 1 ≤ n) (B b : Nat) (us : List ByteArray) (w : World) (hB : B < w.heap.size) (hm : w.cell? ⟨B, 0, none⟩ = some (.map (some b))) (hown : Mp Tryz.prog 9 w b (ssL us)) :
    SeqGives Fence.wide n Tryz.prog 68 #[.pointer (some ⟨B, 0, none⟩)] encStr (fun xs => xs.Perm (us.map bl)) us.length w := fun l J W hW hJ hY h0 =>
  skeys_in n hn l B b us J hY W hJ ((hW.cell (p := ⟨B, 0, none⟩) hB).trans hm) (hown.below hW hown.lt) h0
set_option maxHeartbeats 3200000 in
theorem mapsKeysS_in (n : Nat) (mb : Nat) (w : World) : CallsIn Fence.wide n Tryz.prog 43 #[.map (some mb)] w fun e w' =>
    e = .returned (.func (.func 68) #[] #[.pointer (some ⟨w.heap.size, 0, none⟩)]) ∧ w' = w.alloc (.cells #[.map (some mb)] 77) := by
  refine callsIn_of_wp Tryz.func43 rfl trivial ?_ rfl
  simp only [Tryz.ntmps43, List.size_toArray, List.length_cons, List.length_nil, Nat.reduceAdd, Nat.reduceSub, Array.replicate_succ, Array.replicate_zero, List.push_toArray, List.append_toArray, List.nil_append, List.cons_append]
  gi_wp2
  go_ret
  exact ⟨rfl, rfl⟩
theorem sorted_names {xs : List (List UInt8)} {m : List ByteArray} (nd : xs.Nodup) (h : ∀ s : ByteArray, s ∈ m ↔ bl s ∈ xs) : (xs.mergeSort (fun x y => decide (x ≤ y))).map (fun x => ByteArray.mk x.toArray) = mk ltS m := by
  refine up_ext ordS ?_ (mk_up ordS _) fun s => ?_
  · unfold Up
    rw [List.pairwise_map]
    have h1 : (xs.mergeSort (fun x y => decide (x ≤ y))).Pairwise fun x y => decide (x ≤ y) = true := List.pairwise_mergeSort (fun a b c h1 h2 => by simp only [decide_eq_true_eq] at *; exact Std.le_trans h1 h2) (fun a b => by simp only [Bool.or_eq_true, decide_eq_true_eq]; exact Std.le_total) xs
    have h2 : (xs.mergeSort (fun x y => decide (x ≤ y))).Pairwise fun x y => x ≠ y := List.nodup_iff_pairwise_ne.1 ((List.mergeSort_perm xs _).nodup_iff.2 nd)
    refine (h1.and h2).imp ?_
    rintro a b ⟨hle, hne⟩
    have hle : a ≤ b := by simpa using hle
    unfold ltS
    show Op.bytesLess a b = true
    cases h1 : Op.bytesLess a b with
    | true => rfl
    | false =>
      have h2 : Op.bytesLess b a = false := by
        rw [bytesLess_eq, decide_eq_false_iff_not]
        exact hle
      have := bl_total a b
      rw [h1, h2] at this
      exact absurd (by simpa using this) hne
  · rw [mk_mem, h, List.mem_map]
    constructor
    · rintro ⟨x, hx, rfl⟩
      exact (List.mergeSort_perm xs _).mem_iff.1 hx
    · exact fun hx => ⟨bl s, (List.mergeSort_perm xs _).mem_iff.2 hx, rfl⟩
/-- slices.Sorted at this program's numbers -/
theorem sortedS_in (g : Nat) (lb : Array Value) (eg : ∀ args w, (callFunc g args).run Tryz.prog w = .ok (.enter g args) w) (S : List (List UInt8) → Prop) (N : Nat) (hN : N ≤ maxLen) (hNb : N * 16 ≤ 140737488355328) (w : World) (hseq : SeqGives Fence.wide 2 Tryz.prog g lb encStr S N w) :
    Calls Tryz.prog 42 #[.func (.func g) #[] lb] w fun e w' => ∃ (v : Value) (ss : List (List UInt8)), e = .returned v ∧ S ss ∧
      w'.ownsRow w.heap.size 9 1 v ss.length ((ss.mergeSort (fun x y => decide (x ≤ y))).map encStr) ∧ (v = .slice none 0 0 ↔ ss = []) ∧ Below w.heap.size w w' :=
  callsIn_wide.1 (AnyZ.sorted_in Tryz.sorted42 Fence.wide 5 trivial trivial trivial trivial rfl (by omega) (Tryz.sorts42 _) (enters_of Tryz.func67 (by kernel_rfl) rfl) g lb trivial eg S N hN hNb w hseq)
def ObjsPost (w0 : World) (l : List ByteArray) (e : Ending) (w' : World) : Prop :=
  ∃ (A : Option Addr) (c n : Nat), n = l.length ∧ e = .returned (.slice A n c) ∧ (A = none ∨ ∃ g, A = some ⟨g, 0, none⟩) ∧ Row w' w'.heap.size A (l.map .string) ∧ Below w0.heap.size w0 w'
theorem make_ss (w : World) : (Instr.makeMap 77 none).run Tryz.prog w = .ok (.map (some w.heap.size)) (w.alloc (.map #[] 0)) := rfl
theorem ss_once {w : World} {b : Nat} {us : List ByteArray} (h : Mp Tryz.prog 9 w b (ssL us)) : us.Nodup := by
  have := h.once
  unfold ssL at this
  rw [List.map_map] at this
  exact nodup_of_map (f := fun u => Value.string u) this
theorem bl_inj {a b : ByteArray} (h : bl a = bl b) : a = b := ba_of h
theorem ss_len {us l : List ByteArray} (hn : us.Nodup) (h : ∀ u, u ∈ us ↔ u ∈ l) : us.length ≤ l.length := by
  rw [← FactsSort.mk_len ordS hn, mk_ext ordS h]
  exact FactsPlain.mk_len _
theorem names_len (kind : ByteArray) : ∀ m : List Tp, (names m kind).length ≤ 2 * m.length
  | [] => by simp [names]
  | t :: m => by
    have := names_len kind m
    unfold names at this ⊢
    rw [List.flatMap_cons, List.length_append, List.length_append, List.length_cons]
    split <;> split <;> simp only [List.length_cons, List.length_nil] <;> omega
theorem names_mem {l m : List Tp} (h : ∀ t, t ∈ l ↔ t ∈ m) (kind s : ByteArray) : s ∈ names l kind ↔ s ∈ names m kind := by
  unfold names
  rw [List.mem_flatMap, List.mem_flatMap]
  exact ⟨fun ⟨t, ht, k⟩ => ⟨t, (h t).1 ht, k⟩, fun ⟨t, ht, k⟩ => ⟨t, (h t).2 ht, k⟩⟩
set_option maxRecDepth 100000 in
set_option maxHeartbeats 12800000 in
theorem objects_any {fb gm : Nat} {G : List Grp} {lo : Nat} {w0 : World} (h : Fx lo w0 fb gm G) (hn : (alls G).length * 96 ≤ 140737488355328) (kind : ByteArray) :
    Calls Tryz.prog 27 #[.pointer (some ⟨fb, 0, none⟩), .string kind] w0 (ObjsPost w0 (mk ltS (names (alls G) kind))) := by
  obtain ⟨w1, hw1⟩ : ∃ v, v = w0.alloc (.cells #[.string kind] 9) := ⟨_, rfl⟩
  obtain ⟨kb, hkb⟩ : ∃ v, v = w0.heap.size := ⟨_, rfl⟩
  have b1 : Below w0.heap.size w0 w1 := by rw [hw1]; exact al _ _
  have s1 : w1.heap.size = kb + 1 := by rw [hw1, hkb]; simp
  have k1 : w1.heap[kb]? = some (.cells #[.string kind] 9 (0, 0)) := by rw [hw1, hkb]; exact heap_alloc_new w0 _
  obtain ⟨w2, hw2⟩ : ∃ v, v = (w1.alloc (.map #[] 0)).alloc (.cells #[.map (some w1.heap.size)] 77) := ⟨_, rfl⟩
  obtain ⟨mb, hmb⟩ : ∃ v, v = w1.heap.size := ⟨_, rfl⟩
  obtain ⟨bx, hbx⟩ : ∃ v, v = mb + 1 := ⟨_, rfl⟩
  have b12 : Below w1.heap.size w1 w2 := by rw [hw2]; exact al2 _ _ _
  have b2 := Below.step b1 b12
  have s2 : w2.heap.size = mb + 2 := by rw [hw2, hmb]; simp
  have hmp : Mp Tryz.prog 9 w2 mb (ssL []) := by
    rw [hw2, hmb]
    exact (Mp.made w1).below (al (w1.alloc (.map #[] 0)) _) (by simp)
  have hb2 : w2.heap[bx]? = some (.cells #[.map (some mb)] 77 (0, 0)) := by
    rw [hw2, hbx, hmb]
    exact new2 w1 _ _
  have k2 := (b12.block kb (by omega)).trans k1
  rw [← hmb] at hw2
  have h2 := h.below b2
  obtain ⟨lf, lg, lG⟩ := h.lt
  have hF : ∀ k, Fb fb gm G k → k < w2.heap.size ∧ k ≠ mb := by
    rintro k (rfl | rfl | ⟨g, hg, rfl⟩)
    · exact ⟨by omega, by omega⟩
    · exact ⟨by omega, by omega⟩
    · have := lG g hg
      exact ⟨by omega, by omega⟩
  have T := names_tells (fb := fb) (gm := gm) (G := G) (lo := w2.heap.size) (kb := kb) (bx := bx) (mb := mb) (kind := kind) (fun t ht => ok_fine (h.oks t ht)) hF (by omega) (by omega) (by omega) (by omega) (by omega)
  have hq : NamesQ w2.heap.size kb bx mb kind [] (fun k => k = mb) w2 := ⟨Nat.le_refl _, k2, hb2, fun k => Iff.rfl, [], hmp, by simp [names]⟩
  have HE := Lib.hid (each_any T h2 hq)
  have HN := Lib.hid hn
  have HB2 := Lib.hid b2
  have HW1 := Lib.hid hw1
  have HW2 := Lib.hid hw2
  have HKB := Lib.hid hkb
  have HMB := Lib.hid hmb
  have HBX := Lib.hid hbx
  have HS1 := Lib.hid s1
  have HS2 := Lib.hid s2
  have HGO := Lib.hid (fun (xs : List (List UInt8)) (nd : xs.Nodup) (hx : ∀ s : ByteArray, s ∈ names (alls G) kind ↔ bl s ∈ xs) => sorted_names nd hx)
  have HNL := Lib.hid (names_len kind (alls G))
  clear hw1 hw2 b1 b12 b2 s1 s2 k1 k2 hmp hb2 h2 lf lg lG hF T hq h hn hmb hkb
  generalize mk ltS (names (alls G) kind) = goal at *
  go_enter Tryz.func27, Tryz.ntmps27
  go_upto_region 1 with fail
  rw [← HW1.out, ← HKB.out]
  have hmk := make_ss w1
  go_upto_region 2 with fail
  clear hmk
  rw [← HMB.out, ← HBX.out, ← HW2.out]
  clear hbx
  go_wp2_with fail
  (with_reducible refine HE.out.mono ?_)
  rintro e w3 ⟨rfl, done, X, hp, hev⟩
  obtain ⟨hs3, _, hb3, hX, us, hmp3, hmem⟩ := hev.q
  have hc3 : w3.cell? ⟨bx, 0, none⟩ = some (.map (some mb)) := by simp [World.cell?, hb3]
  have b3 : Below w0.heap.size w0 w3 := hev.turn.belowOf HB2.out (by have := HS2.out; have := HMB.out; have := HS1.out; have := HKB.out; omega) (fun k hk => by rw [hk, HMB.out, HS1.out, HKB.out]; omega)
  have hmem' : ∀ s, s ∈ us ↔ s ∈ names (alls G) kind := fun s => by rw [hmem]; exact names_mem (fun t => hp.mem_iff) kind s
  have hul : us.length ≤ 2 * (alls G).length := Nat.le_trans (ss_len (ss_once hmp3) hmem') HNL.out
  obtain ⟨w4, hw4⟩ : ∃ v, v = w3.alloc (.cells #[.map (some mb)] 77) := ⟨_, rfl⟩
  have b4 : Below w3.heap.size w3 w4 := by rw [hw4]; exact al _ _
  have a4 : w4.heap[w3.heap.size]? = some (.cells #[.map (some mb)] 77 (0, 0)) := by rw [hw4]; exact heap_alloc_new w3 _
  have hc4 : w4.cell? ⟨w3.heap.size, 0, none⟩ = some (.map (some mb)) := by simp [World.cell?, a4]
  have hmp4 : Mp Tryz.prog 9 w4 mb (ssL us) := hmp3.below b4 hmp3.lt
  have HSEQ := Lib.hid (fun n hn => skeys_gives n hn w3.heap.size mb us w4 (by rw [hw4]; simp) hc4 hmp4)
  have HC := Lib.hid (sortedS_in 68 #[.pointer (some ⟨w3.heap.size, 0, none⟩)] (enters_of Tryz.func68 (by kernel_rfl) rfl) _ us.length (by have := HN.out; unfold maxLen; omega) (by have := HN.out; omega) w4 (HSEQ.out 2 (by omega)))
  have hkeys := callsIn_wide.1 (mapsKeysS_in 5 mb w3)
  have HU := Lib.hid hmem'
  have HND := Lib.hid (ss_once hmp3)
  have HB4 := Lib.hid (Below.step b3 b4)
  have HW4 := Lib.hid hw4
  clear hev hs3 hb3 hX hmp3 hmem hmem' b3 hul b4 a4 hc4 hmp4 hw4 hp
  go_wp2_with fail
  (with_reducible refine hkeys.mono ?_)
  rintro e w5 ⟨rfl, rfl⟩
  clear hkeys hc3
  rw [← HW4.out]
  go_wp2_with fail
  (with_reducible refine HC.out.mono ?_)
  rintro e w6 ⟨v, xs, rfl, hS, ho, hnil, hb6⟩
  have nd : xs.Nodup := hS.nodup_iff.2 (by rw [List.nodup_iff_pairwise_ne, List.pairwise_map]; exact (List.nodup_iff_pairwise_ne.1 HND.out).imp fun hne e => hne (bl_inj e))
  have hgo := HGO.out xs nd fun s => by
    rw [hS.mem_iff, ← HU.out, List.mem_map]
    exact ⟨fun hs => ⟨s, hs, rfl⟩, fun ⟨y, hy, e⟩ => by rw [← bl_inj e]; exact hy⟩
  have hfin : ObjsPost w0 goal (.returned v) w6 := by
    obtain ⟨A, c, rfl, hA⟩ : ∃ A c, v = .slice A xs.length c ∧ (A = none ∨ ∃ g, A = some ⟨g, 0, none⟩) := by
      rcases ho.2 with ⟨h1, h2⟩ | ⟨g, cap, cur, h1, _⟩
      · exact ⟨none, 0, by rw [h1, h2], .inl rfl⟩
      · exact ⟨_, _, h1, .inr ⟨g, rfl⟩⟩
    refine ⟨A, c, xs.length, by rw [← hgo, List.length_map, List.length_mergeSort], rfl, hA, ?_, Below.step HB4.out hb6⟩
    have hr := Row.ofOwn ho
    have e : goal.map Value.string = (xs.mergeSort (fun x y => decide (x ≤ y))).map encStr := by
      rw [← hgo, List.map_map]
      rfl
    rw [e]
    exact hr
  have HF := Lib.hid hfin
  clear hS ho hnil hb6 nd hgo hfin
  go_wp2_with fail
  go_ret
  exact HF.out
end Go.Proofs.YtilcnhdfdgmekaaGreat.FactsNames
