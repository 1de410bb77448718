/- The contracts of leafOf, branchOf and Of. -/
import Derived.Test.YtpcpfcllgadghaaNodeOf
import Derived.Test.YtpcpfcllgadghaaNodeCells
namespace Go.Proofs.Ytpcpfcllgadghaa.NodeOf2
open Go.RowKit Base NodePlain NodeRead NodeSlice NodeCheck NodeBox NodeEnt NodeTwo NodeRd NodeOf NodeCells

theorem ent_inj {k b k' b' : ByteArray} (h : ent k b = ent k' b') (h1 : k.size ≤ 255) (h2 : k'.size ≤ 255) : k = k' ∧ b = b' := by
  have e := congrArg (fun x : ByteArray => x.data.toList) h
  simp only [ent_data] at e
  injection e with e1 e2
  have e3 := congrArg UInt8.toNat e1
  rw [UInt8.toNat_ofNat', UInt8.toNat_ofNat'] at e3
  have hl : k.data.toList.length = k'.data.toList.length := by
    show k.size = k'.size
    omega
  have := List.append_inj e2 hl
  exact ⟨bs_ext this.1, bs_ext this.2⟩
theorem ents_inj : ∀ {ks bs ks' bs' : List ByteArray}, ents ks bs = ents ks' bs' → ks.length = bs.length → ks'.length = bs'.length → (∀ q ∈ ks, q.size ≤ 255) → (∀ q ∈ ks', q.size ≤ 255) → ks = ks' ∧ bs = bs'
  | [], [], [], [], _, _, _, _, _ => ⟨rfl, rfl⟩
  | [], [], _ :: _, _ :: _, h, _, _, _, _ => by simp [ents] at h
  | _ :: _, _ :: _, [], [], h, _, _, _, _ => by simp [ents] at h
  | k :: ks, b :: bs, k' :: ks', b' :: bs', h, h1, h2, h3, h4 => by
    simp only [ents, List.zipWith_cons_cons, List.cons.injEq] at h
    obtain ⟨rfl, rfl⟩ := ent_inj h.1 (h3 k (by simp)) (h4 k' (by simp))
    obtain ⟨rfl, rfl⟩ := ents_inj (ks := ks) (bs := bs) (ks' := ks') (bs' := bs') h.2 (by simpa using h1) (by simpa using h2) (fun q hq => h3 q (by simp [hq])) (fun q hq => h4 q (by simp [hq]))
    exact ⟨rfl, rfl⟩
  | [], _ :: _, _, _, _, h, _, _, _ => by simp at h
  | _ :: _, [], _, _, _, h, _, _, _ => by simp at h
  | _, _, [], _ :: _, _, _, h, _, _ => by simp at h
  | _, _, _ :: _, [], _, _, h, _, _ => by simp at h
theorem fours_inj : ∀ {ks js : List Int}, (ks.map fun k => four k.toNat) = (js.map fun k => four k.toNat) → (∀ k ∈ ks, 0 ≤ k ∧ k < 4294967296) → (∀ k ∈ js, 0 ≤ k ∧ k < 4294967296) → ks = js
  | [], [], _, _, _ => rfl
  | [], _ :: _, h, _, _ => by simp at h
  | _ :: _, [], h, _, _ => by simp at h
  | k :: ks, j :: js, h, h1, h2 => by
    simp only [List.map_cons, List.cons.injEq] at h
    have a1 := h1 k (by simp)
    have a2 := h2 j (by simp)
    have e := num_four k.toNat (by omega)
    have e2 := num_four j.toNat (by omega)
    have e3 : num (four k.toNat) rfl = num (four j.toNat) rfl := by simp only [h.1]
    have : k = j := by omega
    rw [this, fours_inj h.2 (fun q hq => h1 q (by simp [hq])) (fun q hq => h2 q (by simp [hq]))]
/-- a node as its cells tell it -/
structure Wd (n : Nd) : Prop where
  ks : ∀ q ∈ n.keys, q.size ≤ 255
  l : n.leaf = true → n.vals.length = n.keys.length ∧ n.kids = []
  b : n.leaf = false → n.vals = [] ∧ (n.kids.length = n.keys.length + 1 ∨ (n.kids = [] ∧ n.keys = [])) ∧ ∀ k ∈ n.kids, 0 ≤ k ∧ k < 4294967296
theorem Ok.wd {n : Nd} (h : Ok n) : Wd n := by
  have hs := Ok.short h
  have hf := h.2
  refine ⟨fun q hq => by have := hs.1 q hq; omega, fun e => ?_, fun e => ?_⟩
  · have := hf.1; rw [e] at this; simpa using this
  · have h1 := hf.1
    rw [e] at h1
    simp only [Bool.false_eq_true, if_false] at h1
    exact ⟨h1.2, .inl h1.1, fun k hk => by have := hf.2.1 k hk; omega⟩
theorem nd_ext {n m : Nd} (h1 : n.leaf = m.leaf) (h2 : n.keys = m.keys) (h3 : n.vals = m.vals) (h4 : n.kids = m.kids) : n = m := by cases n; cases m; simp_all
theorem cells_inj {n m : Nd} (hn : Wd n) (hm : Wd m) (hl : n.leaf = m.leaf) (h : cells n = cells m) : n = m := by
  unfold cells at h
  cases e : m.leaf with
  | true =>
    have e' : n.leaf = true := hl.trans e
    rw [e, e'] at h
    simp only [if_true] at h
    obtain ⟨h1, h2⟩ := ents_inj h (hn.l e').1.symm (hm.l e).1.symm hn.ks hm.ks
    exact nd_ext hl h1 h2 ((hn.l e').2.trans (hm.l e).2.symm)
  | false =>
    have e' : n.leaf = false := hl.trans e
    rw [e, e'] at h
    simp only [Bool.false_eq_true, if_false] at h
    obtain ⟨a1, a2, a3⟩ := hn.b e'
    obtain ⟨b1, b2, b3⟩ := hm.b e
    have key : ∀ n : Nd, (n.kids.length = n.keys.length + 1 ∨ (n.kids = [] ∧ n.keys = [])) → ((texts n).drop 1).length = n.keys.length := by
      intro n h
      rw [List.length_drop, texts, List.length_map]
      rcases h with h | ⟨h1, h2⟩
      · omega
      · rw [h1, h2]; rfl
    have hk1 := key n a2
    have hk2 := key m b2
    have htx : texts n = texts m ∧ n.keys = m.keys := by
      cases ht : texts n with
      | nil =>
        cases ht2 : texts m with
        | nil =>
          rw [ht] at hk1; rw [ht2] at hk2
          exact ⟨rfl, by rw [List.eq_nil_of_length_eq_zero hk1.symm, List.eq_nil_of_length_eq_zero hk2.symm]⟩
        | cons x l =>
          rw [ht, ht2] at h
          rw [ht] at hk1
          rw [List.eq_nil_of_length_eq_zero hk1.symm] at h
          simp [ents] at h
      | cons y l' =>
        cases ht2 : texts m with
        | nil =>
          rw [ht, ht2] at h
          rw [ht2] at hk2
          rw [List.eq_nil_of_length_eq_zero hk2.symm] at h
          simp [ents] at h
        | cons x l =>
          rw [ht, ht2] at h
          rw [ht] at hk1
          rw [ht2] at hk2
          simp only [List.take_succ_cons, List.take_zero, List.drop_succ_cons, List.drop_zero, List.cons_append, List.nil_append, List.cons.injEq] at h hk1 hk2
          obtain ⟨h1, h2⟩ := ents_inj h.2 hk1.symm hk2.symm hn.ks hm.ks
          exact ⟨by rw [h.1, h2], h1⟩
    exact nd_ext hl htx.2 (a1.trans b1.symm) (fours_inj htx.1 a3 b3)
theorem results_cell_tmp_row {P : Program} {fn : Func} {p u : Tmp} {ty : TypeId} (h : fn.results = #[.cell p ty, .tmp u]) (tmps : Array Value) (w : World) (g : Nat) (t : TypeId) (cs : Array Value) (fr : Nat × Nat) (d : TypeDesc)
    (hp : tmps.getD p undef = .pointer (some ⟨g, 0, none⟩)) (hg : w.heap[g]? = some (.cells cs t fr))
    (hu : P.underlying ty = some d) (hd : (match d with | .struct _ | .array _ _ => true | _ => false) = true) (hi : (P.info? ty).map (·.size) = some cs.size) :
    (results fn tmps).run P w = .ok (.tuple #[.agg cs, tmps.getD u undef]) w := by
  rw [results_cell_tmp h, hp]
  simp [asAddr, run_loadVar_row w g t ty cs fr d hg hu hd hi, Result.andThen]
/-- what leafOf and branchOf come to -/
def TellPost (W : World) (leaf : Bool) (cs : List ByteArray) (e : Ending) (w' : World) : Prop := Below W.heap.size W w' ∧
  ((∃ v n, e = .returned (.tuple #[v, .bool true]) ∧ NvO W.heap.size n v w' ∧ n.leaf = leaf ∧ cells n = cs ∧ Wd n ∧ n.keys.length ≤ cs.length ∧ n.vals.length ≤ cs.length ∧ n.kids.length ≤ cs.length + 1 ∧ (∀ q ∈ n.vals, q.size ≤ 1000)) ∨
   (∃ v x A m c B m2 d D m3 d3, v = .agg #[.bool x, .slice A m c, .slice B m2 d, .slice D m3 d3] ∧ e = .returned (.tuple #[v, .bool false]) ∧ ∀ n, n.leaf = leaf → Ok n → cells n ≠ cs))
theorem zero_node : ∀ (w : World), At (w.alloc (.cells #[.bool false, .slice none 0 0, .slice none 0 0, .slice none 0 0] 25)) w.heap.size 25 #[.bool false, .slice none 0 0, .slice none 0 0, .slice none 0 0] := fun w => at_new w _ _
theorem ents_size {ks bs cs : List ByteArray} (h : ents ks bs = cs) (hl : ks.length = bs.length) (hz : ∀ q ∈ cs, q.size ≤ 1000) : ∀ q ∈ bs, q.size ≤ 1000 := by
  intro q hq
  obtain ⟨i, hi, rfl⟩ := List.mem_iff_getElem.1 hq
  have hci : i < cs.length := by subst h; simp [ents]; omega
  obtain ⟨h1, h2, h3⟩ := ents_at h hl hci
  have := hz _ (List.getElem_mem hci)
  rw [h3] at this
  have hs : (ent ks[i] bs[i]).size = 1 + ks[i].size + bs[i].size := by
    have : (ent ks[i] bs[i]).data.toList.length = (ent ks[i] bs[i]).size := rfl
    rw [← this, ent_data, List.length_cons, List.length_append]
    have a1 : ks[i].data.toList.length = ks[i].size := rfl
    have a2 : bs[i].data.toList.length = bs[i].size := rfl
    omega
  omega
set_option maxRecDepth 100000 in
set_option maxHeartbeats 3200000 in
theorem leafOf_any (w : World) (A0 : Option Addr) (n c0 : Nat) (cs : List ByteArray) (hn : n = cs.length) (hr : Row w w.heap.size A0 (strs cs)) (hl : cs.length ≤ 1000) (hz : ∀ q ∈ cs, q.size ≤ 1000) :
    Calls Try.prog 44 #[.slice A0 n c0] w (TellPost w true cs) := by
  subst hn
  have b1 := al w (.cells #[.bool false, .slice none 0 0, .slice none 0 0, .slice none 0 0] 25)
  have hz0 := zero_node w
  have hrd := read_any (w.alloc (.cells #[.bool false, .slice none 0 0, .slice none 0 0, .slice none 0 0] 25)) A0 cs.length c0 cs rfl (hr.belowSize b1) hl hz
  have HZ := Lib.hid hz
  clear hr hl hz
  have hsz1 : (w.alloc (.cells #[.bool false, .slice none 0 0, .slice none 0 0, .slice none 0 0] 25)).heap.size = w.heap.size + 1 := by simp
  have HSZ := Lib.hid hsz1
  clear hsz1
  go_enter Try.func44, Try.ntmps44
  go_wp2_with fail
  refine hrd.mono ?_
  rintro e w1 ⟨b2, hcase⟩
  have hat := hz0.below b2
  have hb := Below.step b1 b2
  clear hrd hz0 b1 b2
  rcases hcase with ⟨A, m, c, B, m2, d, ks, bs, rfl, hK, hV, hk, hv, hen, hsm⟩ | ⟨rfl, hno⟩
  · have hA := set4 hat (.bool true) (.slice A m c) (.slice B m2 d) (.slice none 0 0)
    have hB := below4 hb (Nat.le_refl _) (.bool true) (.slice A m c) (.slice B m2 d) (.slice none 0 0)
    rw [HSZ.out] at hK hV
    have hN : NvO (w.heap.size + 1) ⟨true, ks, bs, []⟩ (.agg #[.bool true, .slice A m c, .slice B m2 d, .slice none 0 0]) w1 := ⟨_, _, _, rfl, hK, hV, slo_none⟩
    have HN := Lib.hid ((hN.st4 (g := w.heap.size) (a := .bool true) (b := .slice A m c) (c := .slice B m2 d) (d := .slice none 0 0) (by omega)).low (Nat.le_succ _))
    have HA := Lib.hid hA
    have HB := Lib.hid hB
    obtain ⟨q0, q1, q2, q3, z0, z1, z2, z3⟩ := hat.f4
    have HF := Lib.hid (show cells ⟨true, ks, bs, []⟩ = cs ∧ Wd ⟨true, ks, bs, []⟩ ∧ ks.length ≤ cs.length ∧ bs.length ≤ cs.length ∧ ([] : List Int).length ≤ cs.length + 1 ∧ ∀ q ∈ bs, q.size ≤ 1000 from
      ⟨by rw [cells]; exact hen, ⟨hsm, fun _ => ⟨by show bs.length = ks.length; omega, rfl⟩, fun e => by cases e⟩, by omega, by omega, by simp, ents_size hen (by omega) HZ.out⟩)
    clear hA hB hN hK hV hat hk hv hen hsm hb HZ
    go_wp2_with fail
    refine bodyPost_ret (results_cell_tmp_row rfl _ _ w.heap.size 25 _ (0, 0) _ rfl HA.out Try.underlying25 rfl (by kernel_rfl)) rfl ?_
    exact ⟨HB.out, .inl ⟨_, ⟨true, ks, bs, []⟩, rfl, HN.out, rfl, HF.out⟩⟩
  · have hA := set4 hat (.bool true) (.slice none 0 0) (.slice none 0 0) (.slice none 0 0)
    have hB := below4 hb (Nat.le_refl _) (.bool true) (.slice none 0 0) (.slice none 0 0) (.slice none 0 0)
    have HA := Lib.hid hA
    have HB := Lib.hid hB
    obtain ⟨q0, q1, q2, q3, z0, z1, z2, z3⟩ := hat.f4
    have HF := Lib.hid (show ∀ n : Nd, n.leaf = true → Ok n → cells n ≠ cs from fun n e ho hc => by
      have hw := Ok.wd ho
      rw [cells, e] at hc
      simp only [if_true] at hc
      exact hno _ _ hw.ks (hw.l e).1.symm hc)
    clear hA hB hat hno hb HZ
    go_wp2_with fail
    refine bodyPost_ret (results_cell_tmp_row rfl _ _ w.heap.size 25 _ (0, 0) _ rfl HA.out Try.underlying25 rfl (by kernel_rfl)) rfl ?_
    exact ⟨HB.out, .inr ⟨_, _, _, _, _, _, _, _, _, _, _, rfl, rfl, HF.out⟩⟩
set_option maxRecDepth 100000 in
set_option maxHeartbeats 6400000 in
theorem branchOf_any (w : World) (A0 : Option Addr) (n c0 : Nat) (cs : List ByteArray) (hn : n = cs.length) (hr : Row w w.heap.size A0 (strs cs)) (hc : cs.length ≤ c0) (hl : cs.length ≤ 1000) (hz : ∀ q ∈ cs, q.size ≤ 1000) :
    Calls Try.prog 43 #[.slice A0 n c0] w (TellPost w false cs) := by
  subst hn
  have b1 := al w (.cells #[.bool false, .slice none 0 0, .slice none 0 0, .slice none 0 0] 25)
  have hz0 := zero_node w
  have hsa : SlA (strs cs) (.slice A0 cs.length c0) w := ⟨_, _, _, rfl, (strs_len _).symm, hc, hr⟩
  have hcut := cutP_s (w.alloc (.cells #[.bool false, .slice none 0 0, .slice none 0 0, .slice none 0 0] 25)) (.slice A0 cs.length c0) (strs cs) 1 cs.length 1 (cs.length : Int) (hsa.below b1) rfl rfl
  have HSA := Lib.hid hsa
  have HZ := Lib.hid hz
  have HLL := Lib.hid hl
  have hsz1 : (w.alloc (.cells #[.bool false, .slice none 0 0, .slice none 0 0, .slice none 0 0] 25)).heap.size = w.heap.size + 1 := by simp
  have HSZ := Lib.hid hsz1
  clear hsz1 hr hl hz hsa hc
  have HD := Lib.hid (show ((strs cs).take cs.length).drop 1 = strs (cs.drop 1) by rw [List.take_of_length_le (by simp [strs])]; simp [strs])
  go_enter Try.func43, Try.ntmps43
  go_wp2_with fail
  refine hcut.mono ?_
  rintro e w1 ⟨A1, m1, c1, rfl, hs1, rfl⟩
  rw [HD.out] at hs1
  obtain ⟨A1', m1', c1', e1, e2, e3, hr1⟩ := hs1
  injection e1 with e1 e4 e5
  subst e1 e4 e5
  rw [strs_len] at e2
  have hrd := read_any _ A1 m1 c1 (cs.drop 1) e2 hr1 (by rw [List.length_drop]; have := HLL.out; omega) (fun q hq => HZ.out q (List.mem_of_mem_drop hq))
  clear hcut e2 e3 hr1
  go_wp2_with fail
  refine hrd.mono ?_
  rintro e w2 ⟨b2, hcase⟩
  have hat := hz0.below b2
  have hb := Below.step b1 b2
  clear hrd hz0 b1 b2
  rcases hcase with ⟨A, m, c, B, m2, d, ks, bs, rfl, hK, hV, hk, hv, hen, hsm⟩ | ⟨rfl, hno⟩
  · rw [HSZ.out] at hK hV
    have hvl : bs.length ≤ cs.length := by rw [hv, List.length_drop]; omega
    have hcut2 := cutP_s w2 (.slice A0 cs.length c0) (strs cs) 0 1 0 1 (HSA.out.below hb) rfl rfl
    go_wp2_with fail
    refine hcut2.mono ?_
    rintro e w3 ⟨A4, m4, c4, rfl, hs4, rfl⟩
    clear hcut2
    have hp := pcs2 (t := 22) hs4 (by intro u hu; exact strs_1 _ u (List.mem_of_mem_take (List.mem_of_mem_drop hu))) hV.sla (strs_1 _)
    have hba := al w2 (.cells #[.slice A4 m4 c4, .slice B m2 d] 22)
    have hlay := layO_s _ _ _ hp (by simp [strs]; have := HLL.out; omega) (by simp)
    have hat3 := hat.below hba
    have hK3 := hK.below hba
    have hb3 := bstep hb hb.size hba
    clear hp hs4 hba hat hK hb hV
    go_wp2_with fail
    refine hlay.mono ?_
    rintro e w5 ⟨A6, m6, c6, rfl, hs6, b6⟩
    clear hlay
    have hat5 := hat3.below b6
    have hK5 := hK3.below b6
    have hb5 := bstep hb3 hb3.size b6
    clear hat3 hK3 hb3 b6
    have HFL := Lib.hid (show [((strs cs).take 1).drop 0, strs bs].flatten = strs (cs.take 1 ++ bs) by simp [strs, List.map_take])
    rw [HFL.out] at hs6
    obtain ⟨A6', m6', c6', e1, e2, e3, hr6, _⟩ := hs6
    injection e1 with e1 e4 e5
    subst e1 e4 e5
    rw [strs_len] at e2
    have hkd := kidsOf_any w5 A6 m6 c6 (cs.take 1 ++ bs) e2 hr6 (by rw [List.length_append, List.length_take, hv, List.length_drop]; have := HLL.out; omega)
    clear e2 e3 hr6
    go_wp2_with fail
    refine hkd.mono ?_
    rintro e w7 ⟨b7, hcase⟩
    clear hkd
    have hat7 := hat5.below b7
    have hK7 := hK5.below b7
    have hb7 := bstep hb5 hb5.size b7
    have HS5 := Lib.hid (heap_lt hat5)
    clear hat5 hK5 b7
    rcases hcase with ⟨D, mD, cD, ds, rfl, hD, hdl, hdm, hdr⟩ | ⟨rfl, hno⟩
    · have hA := set4 hat7 (.bool false) (.slice A m c) (.slice none 0 0) (.slice D mD cD)
      have hB := below4 hb7 (Nat.le_refl _) (.bool false) (.slice A m c) (.slice none 0 0) (.slice D mD cD)
      have hlt5 : w.heap.size + 1 ≤ w5.heap.size := HS5.out
      have hN : NvO (w.heap.size + 1) ⟨false, ks, [], ds⟩ (.agg #[.bool false, .slice A m c, .slice none 0 0, .slice D mD cD]) w7 := ⟨_, _, _, rfl, hK7, slo_none, hD.low hlt5⟩
      have HN := Lib.hid ((hN.st4 (g := w.heap.size) (a := .bool false) (b := .slice A m c) (c := .slice none 0 0) (d := .slice D mD cD) (by omega)).low (Nat.le_succ _))
      have HA := Lib.hid hA
      have HB := Lib.hid hB
      obtain ⟨q0, q1, q2, q3, z0, z1, z2, z3⟩ := hat7.f4
      have HF := Lib.hid (show cells ⟨false, ks, [], ds⟩ = cs ∧ Wd ⟨false, ks, [], ds⟩ ∧ ks.length ≤ cs.length ∧ ([] : List ByteArray).length ≤ cs.length ∧ ds.length ≤ cs.length + 1 ∧ ∀ q ∈ ([] : List ByteArray), q.size ≤ 1000 from by
        rw [List.length_drop] at hk hv
        rw [List.length_append, List.length_take] at hdl
        refine ⟨?_, ⟨hsm, fun e => (by cases e), fun _ => ⟨rfl, ?_, hdr⟩⟩, by omega, by simp, by omega, by simp⟩
        · show (texts ⟨false, ks, [], ds⟩).take 1 ++ ents ks ((texts ⟨false, ks, [], ds⟩).drop 1) = cs
          have ht : texts ⟨false, ks, [], ds⟩ = cs.take 1 ++ bs := hdm
          rw [ht]
          cases cs with
          | nil =>
            have : bs = [] := List.eq_nil_of_length_eq_zero (by simpa using hv)
            subst this
            have : ks = [] := List.eq_nil_of_length_eq_zero (by simpa using hk)
            subst this
            rfl
          | cons x l =>
            simp only [List.take_succ_cons, List.take_zero, List.cons_append, List.nil_append, List.drop_succ_cons, List.drop_zero] at hen ⊢
            first | rw [hen] | skip
        · show ds.length = ks.length + 1 ∨ (ds = [] ∧ ks = [])
          cases cs with
          | nil => exact .inr ⟨List.eq_nil_of_length_eq_zero (by simp at hv; subst hv; simpa using hdl), List.eq_nil_of_length_eq_zero (by simpa using hk)⟩
          | cons x l => left; simp at hdl hk hv; omega)
      clear hA hB hN hK7 hD hat7 hk hv hen hsm hdl hdm hdr hb7 hb5 HZ
      go_wp2_with fail
      refine bodyPost_ret (results_cell_tmp_row rfl _ _ w.heap.size 25 _ (0, 0) _ rfl HA.out Try.underlying25 rfl (by kernel_rfl)) rfl ?_
      exact ⟨HB.out, .inl ⟨_, ⟨false, ks, [], ds⟩, rfl, HN.out, rfl, HF.out⟩⟩
    · have hA := set4 hat7 (.bool false) (.slice A m c) (.slice none 0 0) (.slice none 0 0)
      have hB := below4 hb7 (Nat.le_refl _) (.bool false) (.slice A m c) (.slice none 0 0) (.slice none 0 0)
      have HA := Lib.hid hA
      have HB := Lib.hid hB
      obtain ⟨q0, q1, q2, q3, z0, z1, z2, z3⟩ := hat7.f4
      have HF := Lib.hid (show ∀ n : Nd, n.leaf = false → Ok n → cells n ≠ cs from fun n e ho hc => by
        have hw := Ok.wd ho
        have hf := ho.2.1
        rw [e] at hf
        simp only [Bool.false_eq_true, if_false] at hf
        rw [cells, e] at hc
        simp only [Bool.false_eq_true, if_false] at hc
        have hlt : (texts n).length = n.keys.length + 1 := by rw [texts, List.length_map]; exact hf.1
        cases ht : texts n with
        | nil => rw [ht] at hlt; simp at hlt
        | cons x l =>
          rw [ht] at hc hlt
          simp only [List.take_succ_cons, List.take_zero, List.cons_append, List.nil_append, List.drop_succ_cons, List.drop_zero] at hc
          subst hc
          simp only [List.drop_succ_cons, List.drop_zero] at hen hk hv
          have := (ents_inj hen (by omega) (by simpa using hlt.symm) hsm hw.ks).2
          subst this
          exact hno n.kids (by rw [show (n.kids.map fun k => four k.toNat) = texts n from rfl, ht]; rfl))
      clear hA hB hat7 hno hb7 hb5 HZ hK7 hk hv hen hsm
      go_wp2_with fail
      refine bodyPost_ret (results_cell_tmp_row rfl _ _ w.heap.size 25 _ (0, 0) _ rfl HA.out Try.underlying25 rfl (by kernel_rfl)) rfl ?_
      exact ⟨HB.out, .inr ⟨_, _, _, _, _, _, _, _, _, _, _, rfl, rfl, HF.out⟩⟩
  · have hA := set4 hat (.bool false) (.slice none 0 0) (.slice none 0 0) (.slice none 0 0)
    have hB := below4 hb (Nat.le_refl _) (.bool false) (.slice none 0 0) (.slice none 0 0) (.slice none 0 0)
    have HA := Lib.hid hA
    have HB := Lib.hid hB
    obtain ⟨q0, q1, q2, q3, z0, z1, z2, z3⟩ := hat.f4
    have HF := Lib.hid (show ∀ n : Nd, n.leaf = false → Ok n → cells n ≠ cs from fun n e ho hc => by
      have hw := Ok.wd ho
      have hf := ho.2.1
      rw [e] at hf
      simp only [Bool.false_eq_true, if_false] at hf
      rw [cells, e] at hc
      simp only [Bool.false_eq_true, if_false] at hc
      have hlt : (texts n).length = n.keys.length + 1 := by rw [texts, List.length_map]; exact hf.1
      cases ht : texts n with
      | nil => rw [ht] at hlt; simp at hlt
      | cons x l =>
        rw [ht] at hc hlt
        simp only [List.take_succ_cons, List.take_zero, List.cons_append, List.nil_append, List.drop_succ_cons, List.drop_zero] at hc
        subst hc
        exact hno n.keys l hw.ks (by simpa using hlt.symm) rfl)
    clear hA hB hat hno hb HZ
    go_wp2_with fail
    refine bodyPost_ret (results_cell_tmp_row rfl _ _ w.heap.size 25 _ (0, 0) _ rfl HA.out Try.underlying25 rfl (by kernel_rfl)) rfl ?_
    exact ⟨HB.out, .inr ⟨_, _, _, _, _, _, _, _, _, _, _, rfl, rfl, HF.out⟩⟩
end Go.Proofs.Ytpcpfcllgadghaa.NodeOf2
