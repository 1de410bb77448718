/- What a leaf has at a key: plain facts, and got's contract. -/
import Derived.Test.YtpcpfcllgadghaaNodeStore
import Derived.Test.YtpcpfcllgadghaaNodeRefFind
namespace Go.Proofs.Ytpcpfcllgadghaa.NodeGot
open Go.RowKit Base NodePlain NodeRead NodeSlice NodeCheck NodeBox NodeFind NodeLeaf NodeStore NodeRefFind

def look (k : ByteArray) : Ps → Option ByteArray
  | [] => none
  | p :: l => if p.1 = k then some p.2 else look k l
def gt (l : Ps) (k : ByteArray) : ByteArray := match look k l with
  | none => ⟨#[]⟩
  | some v => (⟨#[61]⟩ : ByteArray) ++ v
theorem look_ins_ne {k j : ByteArray} (v : ByteArray) (h : k ≠ j) : ∀ l : Ps, look k (ins j v l) = look k l
  | [] => by simp [ins, look, h.symm]
  | p :: l => by
    have ih := look_ins_ne v h l
    simp only [ins]
    split
    · simp only [look, ih]
    · split
      · rename_i q
        have : p.1 ≠ k := by rw [q]; exact h.symm
        simp [look, this, h.symm]
      · simp [look, h.symm]
theorem look_ins (k v : ByteArray) : ∀ l : Ps, look k (ins k v l) = some v
  | [] => by simp [ins, look]
  | p :: l => by
    have ih := look_ins k v l
    simp only [ins]
    split
    · rename_i q
      simp [look, less_ne q, ih]
    · split <;> simp [look]
theorem look_del_ne {k j : ByteArray} (h : k ≠ j) : ∀ l : Ps, look k (del j l) = look k l
  | [] => rfl
  | p :: l => by
    have ih := look_del_ne h l
    unfold del at ih ⊢
    rw [List.filter_cons]
    split
    · simp only [look, ih]
    · rename_i q
      have e : p.1 = j := by simpa using q
      have : p.1 ≠ k := by rw [e]; exact h.symm
      simp [look, this, ih]
theorem look_has (k : ByteArray) : ∀ l : Ps, has (ks l) k = (look k l).isSome
  | [] => rfl
  | p :: l => by
    have ih := look_has k l
    have e : has (ks (p :: l)) k = (decide (p.1 = k) || has (ks l) k) := has_cons _ _ _
    rw [e, ih]
    simp only [look]
    split <;> simp_all
theorem look_at {k : ByteArray} : ∀ {l : Ps}, Up (ks l) → has (ks l) k = true → (vs l)[pos (ks l) k]? = look k l
  | [], _, h => by simp [has, ks] at h
  | p :: l, hu, h => by
    obtain ⟨h1, h2⟩ := up_cons.1 hu
    obtain ⟨c, z⟩ := p
    rcases less_cases c k with ⟨p1, p2, p3⟩ | ⟨p1, p2, p3⟩ | ⟨p1, p2, p3⟩
    · have e1 : pos (ks ((c, z) :: l)) k = pos (ks l) k + 1 := by simp [ks, pos, p1]
      have e2 : has (ks ((c, z) :: l)) k = has (ks l) k := by show has (c :: ks l) k = _; rw [has_cons]; simp [p3]
      rw [e2] at h
      rw [e1]
      simp only [look, p3, if_false]
      rw [← look_at h2 h]
      rfl
    · subst p1
      have e1 : pos (ks ((c, z) :: l)) c = 0 := by simp [ks, pos, p2]
      rw [e1]
      simp [vs, look]
    · have e2 : has (ks ((c, z) :: l)) k = false := has_no fun q hq => by
        rcases List.mem_cons.1 hq with rfl | hq
        · exact p1
        · exact less_trans p1 (h1 q hq)
      rw [e2] at h
      cases h
theorem has_ins (k v : ByteArray) (l : Ps) : has (ks (ins k v l)) k = true := by rw [look_has, look_ins]; rfl
theorem has_del (k : ByteArray) (l : Ps) : has (ks (del k l)) k = false := by
  rw [Bool.eq_false_iff]
  intro h
  obtain ⟨p, hp, e⟩ := List.mem_map.1 ((has_mem _ _).1 h)
  have := (List.mem_filter.1 hp).2
  simp at this
  exact this e
theorem gt_ins_ne {l : Ps} {k j : ByteArray} (v : ByteArray) (h : k ≠ j) : gt (ins j v l) k = gt l k := by unfold gt; rw [look_ins_ne v h]
theorem gt_del_ne {l : Ps} {k j : ByteArray} (h : k ≠ j) : gt (del j l) k = gt l k := by unfold gt; rw [look_del_ne h]
def Sz (l : Ps) : Prop := ∀ p ∈ l, p.1.size ≤ 100 ∧ p.2.size ≤ 100
theorem sz_ins {l : Ps} (h : Sz l) {k v : ByteArray} (hk : k.size ≤ 100) (hv : v.size ≤ 100) : Sz (ins k v l) := fun p hp => by
  rcases ins_mem hp with rfl | hp
  · exact ⟨hk, hv⟩
  · exact h p hp
theorem sz_del {l : Ps} (h : Sz l) (k : ByteArray) : Sz (del k l) := fun p hp => h p (del_mem hp)
theorem ok_lfn {l : Ps} (h : Sz l) (hu : Up (ks l)) : Ok (lfn l) := by
  refine ⟨?_, ?_, fun k hk => (by cases hk), hu⟩
  · rintro (⟨t, ht, hz⟩ | ⟨t, ht, hz⟩)
    · obtain ⟨p, hp, rfl⟩ := List.mem_map.1 ht
      have := (h p hp).1
      omega
    · obtain ⟨p, hp, rfl⟩ := List.mem_map.1 ht
      have := (h p hp).2
      omega
  · simp [lfn, ks, vs]
theorem ok_sz {l : Ps} (h : Ok (lfn l)) : Sz l := fun p hp => by
  refine ⟨?_, ?_⟩
  · rcases Nat.lt_or_ge 100 p.1.size with q | q
    · exact absurd (.inl ⟨p.1, List.mem_map_of_mem hp, q⟩) h.1
    · exact q
  · rcases Nat.lt_or_ge 100 p.2.size with q | q
    · exact absurd (.inr ⟨p.2, List.mem_map_of_mem hp, q⟩) h.1
    · exact q
/-- a key's value, where it stands -/
theorem val_at {n : Nd} {l : Ps} {k v : ByteArray} (hn : n = lfn l) (hu : Up (ks l)) (h : look k l = some v) : ∃ hlt : at_ n k < n.vals.length, n.vals[at_ n k] = v := by
  have hh : has (ks l) k = true := by rw [look_has, h]; rfl
  have e := look_at hu hh
  rw [h] at e
  have hat : at_ n k = pos (ks l) k := by rw [hn]; simp [at_, lfn]
  have hv : n.vals = vs l := by rw [hn]; rfl
  rw [← hat, ← hv] at e
  obtain ⟨hlt, e⟩ := List.getElem?_eq_some_iff.1 e
  exact ⟨hlt, e⟩
set_option maxRecDepth 100000 in
set_option maxHeartbeats 3200000 in
theorem got_any (W : World) (l : Ps) (n : Nd) (h : Hd) (key : ByteArray) (hn : n = lfn l) {c : Nat} (hf : Lf c l) (hc : c ≤ 1000) (hl : Lay W n h) (hks : key.size ≤ maxLen) :
    Calls Try.prog 30 #[nv n h, .string key] W fun e w' => e = .returned (.string (gt l key)) ∧ Below W.heap.size W w' := by
  have hs : Small n := by rw [hn]; exact hf.small hc
  have hk : n.keys = ks l := by rw [hn]; rfl
  have hu : Up n.keys := by rw [hk]; exact hf.up
  have b1 := box_below W n h
  have bx := bx_new W n h
  have hl1 := hl.below b1
  have hfi := rfind_any (box W n h) n h key hl1 hs hu hks
  have HS := Lib.hid (fun w' (hb : Below (box W n h).heap.size (box W n h) w') => show Bx w' W.heap.size n h ∧ Lay w' n h ∧ Below W.heap.size W w' from ⟨bx.below hb, hl1.below hb, Below.step b1 hb⟩)
  have HUL := Lib.hid hf.up
  have HN := Lib.hid hn
  have hlook := look_has key l
  rw [← hk] at hlook
  have hkl := hs.k
  have hvl := hs.v
  have HSV := Lib.hid hs.vs
  clear b1 bx hl1 hl hs hu hf hk hn
  cases hlk : look key l with
  | none =>
    rw [hlk] at hlook
    have HG := Lib.hid (show gt l key = ⟨#[]⟩ by unfold gt; rw [hlk])
    rw [hlook] at hfi
    clear hlook hlk
    go_enter Try.func30, Try.ntmps30
    go_wp2_with fail
    refine hfi.mono ?_
    rintro e w2 ⟨rfl, b2⟩
    obtain ⟨_, _, hB⟩ := HS.out w2 b2
    go_wp2_with fail
    go_ret
    exact ⟨ret_str HG.out.symm, hB⟩
  | some v =>
    rw [hlk] at hlook
    have HG := Lib.hid (show gt l key = (⟨#[61]⟩ : ByteArray) ++ v by unfold gt; rw [hlk])
    obtain ⟨hlt, hval⟩ := val_at HN.out HUL.out hlk
    have hvz : v.size ≤ 1000 := by rw [← hval]; exact HSV.out _ (List.getElem_mem hlt)
    rw [hlook] at hfi
    clear hlook hlk
    generalize at_ n key = a at *
    go_enter Try.func30, Try.ntmps30
    go_wp2_with fail
    refine hfi.mono ?_
    rintro e w2 ⟨rfl, b2⟩
    obtain ⟨⟨_, _, c2, _, _⟩, hl2, hB⟩ := HS.out w2 b2
    obtain ⟨ad, hV, _, hcell⟩ := strs_get hl2.v a hlt
    rw [hval] at hcell
    rw [hV] at c2
    clear hV hl2 hfi hval
    have i1 : (a : Int) < (n.vals.length : Int) := by omega
    have hcc : (9223372036854775807 < 1 + v.size) = False := by simp; omega
    go_wp2_with fail
    go_ret
    exact ⟨ret_str HG.out.symm, hB⟩
end Go.Proofs.Ytpcpfcllgadghaa.NodeGot
