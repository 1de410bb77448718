/- Tuples as plain data: names, texts, keys. No memory, no program. -/
import Derived.Test.YtpiojnphbanggaaKeyPlain
namespace Go.Proofs.Ytpiojnphbanggaa.TuplePlain
open KeyPlain

def low (c : UInt8) : Bool := decide (97 ≤ c) && decide (c ≤ 122)
def dig (c : UInt8) : Bool := decide (48 ≤ c) && decide (c ≤ 57)
def nch (c : UInt8) : Bool := low c || dig c || c == 95
def ich (c : UInt8) : Bool := low c || dig c || c == 95 || c == 45 || c == 46
/-- a name -/
def nameL : List UInt8 → Bool
  | [] => false
  | c :: r => low c && r.all nch && decide (r.length ≤ 11)
/-- an object's name -/
def idL (l : List UInt8) : Bool := l.all ich && decide (1 ≤ l.length) && decide (l.length ≤ 16)
structure Us where
  k : ByteArray
  i : ByteArray
  r : ByteArray
structure Tp where
  k : ByteArray
  i : ByteArray
  r : ByteArray
  u : Us
abbrev bl (s : ByteArray) : List UInt8 := s.data.toList
def relL (s : ByteArray) : Bool := decide (s.size = 0) || nameL (bl s)
def Us.ok (u : Us) : Bool := nameL (bl u.k) && idL (bl u.i) && relL u.r
def Tp.ok (t : Tp) : Bool := nameL (bl t.k) && idL (bl t.i) && nameL (bl t.r) && t.u.ok
def Us.show (u : Us) : List UInt8 := bl u.k ++ 58 :: (bl u.i ++ if u.r.size = 0 then [] else 35 :: bl u.r)
def Tp.show (t : Tp) : List UInt8 := bl t.k ++ 58 :: (bl t.i ++ 35 :: (bl t.r ++ 64 :: t.u.show))
/-- a tuple's object with its relation, as a user -/
def Tp.obj (t : Tp) : Us := ⟨t.k, t.i, t.r⟩
def Tp.parts (t : Tp) : List ByteArray := [t.k, t.i, t.r, t.u.k, t.u.i, t.u.r]
def Tp.backs (t : Tp) : List ByteArray := [t.u.k, t.u.i, t.u.r, t.k, t.i, t.r]
abbrev sf : ByteArray := ⟨#[102]⟩
abbrev sr : ByteArray := ⟨#[114]⟩
def Tp.key (t : Tp) : List UInt8 := kput (lst (sf :: t.parts))
def Tp.back (t : Tp) : List UInt8 := kput (lst (sr :: t.backs))
def zus : Us := ⟨⟨#[]⟩, ⟨#[]⟩, ⟨#[]⟩⟩
def ztp : Tp := ⟨⟨#[]⟩, ⟨#[]⟩, ⟨#[]⟩, zus⟩

/-! letters -/
theorem ba_of {a b : ByteArray} (h : bl a = bl b) : a = b := by
  cases a; cases b
  simp only [ByteArray.mk.injEq]
  exact Array.ext' h
theorem bl_size (a : ByteArray) : (bl a).length = a.size := rfl
theorem size_zero {a : ByteArray} (h : a.size = 0) : a = ⟨#[]⟩ := ba_of (List.eq_nil_of_length_eq_zero h)
/-- what no name holds -/
def Odd (c : UInt8) : Prop := c = 58 ∨ c = 35 ∨ c = 64 ∨ c = 0
theorem nch_odd {c : UInt8} (h : nch c = true) : ¬ Odd c := by
  rintro (rfl | rfl | rfl | rfl) <;> exact absurd h (by decide)
theorem ich_odd {c : UInt8} (h : ich c = true) : ¬ Odd c := by
  rintro (rfl | rfl | rfl | rfl) <;> exact absurd h (by decide)
theorem low_odd {c : UInt8} (h : low c = true) : ¬ Odd c := nch_odd (by unfold nch; rw [h]; rfl)
theorem name_odd {l : List UInt8} (h : nameL l = true) {c : UInt8} (hc : Odd c) : c ∉ l := by
  cases l with
  | nil => simp
  | cons d r =>
    simp only [nameL, Bool.and_eq_true, List.all_eq_true] at h
    intro hm
    rcases List.mem_cons.1 hm with rfl | hm
    · exact low_odd h.1.1 hc
    · exact nch_odd (h.1.2 c hm) hc
theorem name_len {l : List UInt8} (h : nameL l = true) : 1 ≤ l.length ∧ l.length ≤ 12 := by
  cases l with
  | nil => cases h
  | cons d r =>
    simp only [nameL, Bool.and_eq_true, decide_eq_true_eq] at h
    simp only [List.length_cons]
    omega
theorem id_odd {l : List UInt8} (h : idL l = true) {c : UInt8} (hc : Odd c) : c ∉ l := by
  simp only [idL, Bool.and_eq_true, List.all_eq_true] at h
  exact fun hm => ich_odd (h.1.1 c hm) hc
theorem id_len {l : List UInt8} (h : idL l = true) : 1 ≤ l.length ∧ l.length ≤ 16 := by
  simp only [idL, Bool.and_eq_true, decide_eq_true_eq] at h
  exact ⟨h.1.2, h.2⟩
theorem rel_odd {s : ByteArray} (h : relL s = true) {c : UInt8} (hc : Odd c) : c ∉ bl s := by
  simp only [relL, Bool.or_eq_true, decide_eq_true_eq] at h
  rcases h with h | h
  · rw [size_zero h]; exact (by simp)
  · exact name_odd h hc
theorem rel_len {s : ByteArray} (h : relL s = true) : s.size ≤ 12 := by
  simp only [relL, Bool.or_eq_true, decide_eq_true_eq] at h
  rcases h with h | h
  · omega
  · exact (name_len h).2
theorem rel_of_name {s : ByteArray} (h : nameL (bl s) = true) : relL s = true := by unfold relL; rw [h, Bool.or_true]
theorem Us.okE {u : Us} (h : u.ok = true) : nameL (bl u.k) = true ∧ idL (bl u.i) = true ∧ relL u.r = true := by
  simp only [Us.ok, Bool.and_eq_true] at h
  exact ⟨h.1.1, h.1.2, h.2⟩
theorem Tp.okE {t : Tp} (h : t.ok = true) : nameL (bl t.k) = true ∧ idL (bl t.i) = true ∧ nameL (bl t.r) = true ∧ t.u.ok = true := by
  simp only [Tp.ok, Bool.and_eq_true] at h
  exact ⟨h.1.1.1, h.1.1.2, h.1.2, h.2⟩
theorem Tp.obj_ok {t : Tp} (h : t.ok = true) : t.obj.ok = true := by
  obtain ⟨a, b, c, _⟩ := t.okE h
  simp only [Us.ok, Tp.obj, Bool.and_eq_true]
  exact ⟨⟨a, b⟩, rel_of_name c⟩

/-! texts tell what they show -/
theorem split_at {c : UInt8} : ∀ {a b x y : List UInt8}, c ∉ a → c ∉ b → a ++ c :: x = b ++ c :: y → a = b ∧ x = y
  | [], [], _, _, _, _, h => ⟨rfl, by simpa using h⟩
  | [], d :: b, _, _, _, hb, h => by
    injection h with h1 h2
    subst h1
    exact absurd (by simp) hb
  | d :: a, [], _, _, ha, _, h => by
    injection h with h1 h2
    subst h1
    exact absurd (by simp) ha
  | d :: a, e :: b, x, y, ha, hb, h => by
    injection h with h1 h2
    obtain ⟨h3, h4⟩ := split_at (fun m => ha (List.mem_cons_of_mem _ m)) (fun m => hb (List.mem_cons_of_mem _ m)) h2
    exact ⟨by rw [h1, h3], h4⟩
theorem Us.show_inj {u v : Us} (hu : u.ok = true) (hv : v.ok = true) (h : u.show = v.show) : u = v := by
  obtain ⟨a1, a2, a3⟩ := u.okE hu
  obtain ⟨b1, b2, b3⟩ := v.okE hv
  obtain ⟨e1, e2⟩ := split_at (name_odd a1 (Or.inl rfl)) (name_odd b1 (Or.inl rfl)) h
  have h35 : Odd 35 := Or.inr (Or.inl rfl)
  have e3 : u.i = v.i ∧ u.r = v.r := by
    by_cases hz : u.r.size = 0 <;> by_cases hy : v.r.size = 0
    · rw [if_pos hz, if_pos hy, List.append_nil, List.append_nil] at e2
      exact ⟨ba_of e2, by rw [size_zero hz, size_zero hy]⟩
    · rw [if_pos hz, if_neg hy, List.append_nil] at e2
      exact absurd (by rw [e2]; simp) (id_odd a2 h35)
    · rw [if_neg hz, if_pos hy, List.append_nil] at e2
      exact absurd (by rw [← e2]; simp) (id_odd b2 h35)
    · rw [if_neg hz, if_neg hy] at e2
      obtain ⟨e3, e4⟩ := split_at (id_odd a2 h35) (id_odd b2 h35) e2
      exact ⟨ba_of e3, ba_of e4⟩
  obtain ⟨k, i, r⟩ := u
  obtain ⟨k', i', r'⟩ := v
  simp only [Us.mk.injEq]
  exact ⟨ba_of e1, e3⟩
theorem Tp.show_inj {t v : Tp} (ht : t.ok = true) (hv : v.ok = true) (h : t.show = v.show) : t = v := by
  obtain ⟨a1, a2, a3, a4⟩ := t.okE ht
  obtain ⟨b1, b2, b3, b4⟩ := v.okE hv
  obtain ⟨e1, h⟩ := split_at (name_odd a1 (Or.inl rfl)) (name_odd b1 (Or.inl rfl)) h
  have h35 : Odd 35 := Or.inr (Or.inl rfl)
  have h64 : Odd 64 := Or.inr (Or.inr (Or.inl rfl))
  obtain ⟨e2, h⟩ := split_at (id_odd a2 h35) (id_odd b2 h35) h
  obtain ⟨e3, h⟩ := split_at (name_odd a3 h64) (name_odd b3 h64) h
  have e4 := Us.show_inj a4 b4 h
  obtain ⟨k, i, r, u⟩ := t
  obtain ⟨k', i', r', u'⟩ := v
  simp only [Tp.mk.injEq]
  exact ⟨ba_of e1, ba_of e2, ba_of e3, e4⟩
theorem Us.show_rel {u : Us} (h : u.r.size ≠ 0) : u.show = bl u.k ++ 58 :: (bl u.i ++ 35 :: bl u.r) := by unfold Us.show; rw [if_neg h]
theorem name_ne {s : ByteArray} (h : nameL (bl s) = true) : s.size ≠ 0 := by have := (name_len h).1; rw [bl_size] at this; omega
/-- a tuple's text is its object's, and its user's -/
theorem Tp.show_two {t : Tp} (h : t.ok = true) : t.show = t.obj.show ++ 64 :: t.u.show := by
  have h1 := t.okE h
  rw [Us.show_rel (u := t.obj) (name_ne h1.2.2.1)]
  simp [Tp.show, Tp.obj]
/-- of a text with @ in it: whose it is -/
theorem Tp.show_parts {t : Tp} (h : t.ok = true) {a b : List UInt8} (ha : (64 : UInt8) ∉ a) (he : t.show = a ++ 64 :: b) : t.obj.show = a ∧ t.u.show = b := by
  rw [t.show_two h] at he
  refine split_at ?_ ha he
  have h1 := (t.obj_ok h)
  obtain ⟨c1, c2, c3⟩ := Us.okE h1
  have h64 : Odd 64 := Or.inr (Or.inr (Or.inl rfl))
  intro hm
  simp only [Us.show, List.mem_append, List.mem_cons] at hm
  rcases hm with hm | hm | hm | hm
  · exact name_odd c1 h64 hm
  · exact absurd hm (by decide)
  · exact id_odd c2 h64 hm
  · split at hm
    · cases hm
    · rcases List.mem_cons.1 hm with hm | hm
      · exact absurd hm (by decide)
      · exact rel_odd c3 h64 hm

/-! keys -/
theorem esc_id : ∀ {l : List UInt8}, (0 : UInt8) ∉ l → esc l = l
  | [], _ => rfl
  | c :: l, h => by
    have hc : c ≠ 0 := fun e => h (by rw [e]; simp)
    simp only [esc, if_neg hc, esc_id (fun m => h (List.mem_cons_of_mem _ m))]
theorem kpart_len {l : List UInt8} (h : (0 : UInt8) ∉ l) : (kpart l).length = l.length + 2 := by simp [kpart, esc_id h]
theorem kput_cons_len (p : ByteArray) (ps : List ByteArray) (h : (0 : UInt8) ∉ bl p) : (kput (lst (p :: ps))).length = p.size + 2 + (kput (lst ps)).length := by
  show (kpart (bl p) ++ kput (lst ps)).length = _
  rw [List.length_append, kpart_len h, bl_size]
theorem Tp.zeros {t : Tp} (h : t.ok = true) : ∀ p ∈ t.parts, (0 : UInt8) ∉ bl p := by
  obtain ⟨a1, a2, a3, a4⟩ := t.okE h
  obtain ⟨b1, b2, b3⟩ := Us.okE a4
  have h0 : Odd 0 := Or.inr (Or.inr (Or.inr rfl))
  intro p hp
  simp only [Tp.parts, List.mem_cons, List.not_mem_nil, or_false] at hp
  rcases hp with rfl | rfl | rfl | rfl | rfl | rfl
  · exact name_odd a1 h0
  · exact id_odd a2 h0
  · exact name_odd a3 h0
  · exact name_odd b1 h0
  · exact id_odd b2 h0
  · exact rel_odd b3 h0
theorem Tp.key_len {t : Tp} (h : t.ok = true) : t.key.length ≤ 95 ∧ t.back.length = t.key.length := by
  obtain ⟨a1, a2, a3, a4⟩ := t.okE h
  obtain ⟨b1, b2, b3⟩ := Us.okE a4
  have z := t.zeros h
  have k1 := (name_len a1).2; have k2 := (id_len a2).2; have k3 := (name_len a3).2
  have k4 := (name_len b1).2; have k5 := (id_len b2).2; have k6 := rel_len b3
  rw [bl_size] at k1 k2 k3 k4 k5
  have m : ∀ q, q ∈ t.parts → (0 : UInt8) ∉ bl q := z
  simp only [Tp.parts, List.mem_cons, List.not_mem_nil, or_false] at m
  have hn : (kput (lst [])).length = 0 := rfl
  have e1 : t.key.length = 3 + (t.k.size + 2) + (t.i.size + 2) + (t.r.size + 2) + (t.u.k.size + 2) + (t.u.i.size + 2) + (t.u.r.size + 2) := by
    unfold Tp.key Tp.parts
    rw [kput_cons_len _ _ (by decide), kput_cons_len _ _ (m _ (by simp)), kput_cons_len _ _ (m _ (by simp)), kput_cons_len _ _ (m _ (by simp)), kput_cons_len _ _ (m _ (by simp)), kput_cons_len _ _ (m _ (by simp)), kput_cons_len _ _ (m _ (by simp)), hn]
    show 1 + 2 + _ = _
    omega
  have e2 : t.back.length = 3 + (t.k.size + 2) + (t.i.size + 2) + (t.r.size + 2) + (t.u.k.size + 2) + (t.u.i.size + 2) + (t.u.r.size + 2) := by
    unfold Tp.back Tp.backs
    rw [kput_cons_len _ _ (by decide), kput_cons_len _ _ (m _ (by simp)), kput_cons_len _ _ (m _ (by simp)), kput_cons_len _ _ (m _ (by simp)), kput_cons_len _ _ (m _ (by simp)), kput_cons_len _ _ (m _ (by simp)), kput_cons_len _ _ (m _ (by simp)), hn]
    show 1 + 2 + _ = _
    omega
  omega
theorem lst_inj {ps qs : List ByteArray} (h : lst ps = lst qs) : ps = qs := by
  induction ps generalizing qs with
  | nil => cases qs with
    | nil => rfl
    | cons q qs => cases h
  | cons p ps ih => cases qs with
    | nil => cases h
    | cons q qs =>
      simp only [lst, List.map_cons, List.cons.injEq] at h
      rw [ba_of h.1, ih h.2]
theorem parts_inj {t v : Tp} (h : t.parts = v.parts) : t = v := by
  obtain ⟨k, i, r, ⟨a, b, c⟩⟩ := t
  obtain ⟨k', i', r', ⟨a', b', c'⟩⟩ := v
  simpa [Tp.parts] using h
theorem backs_inj {t v : Tp} (h : t.backs = v.backs) : t = v := by
  obtain ⟨k, i, r, ⟨a, b, c⟩⟩ := t
  obtain ⟨k', i', r', ⟨a', b', c'⟩⟩ := v
  simp only [Tp.backs, List.cons.injEq, and_true] at h
  simp [h]
theorem key_inj {t v : Tp} (h : t.key = v.key) : t = v := by
  have h1 := lst_inj (kput_inj h)
  injection h1 with _ h1
  exact parts_inj h1
theorem back_inj {t v : Tp} (h : t.back = v.back) : t = v := by
  have h1 := lst_inj (kput_inj h)
  injection h1 with _ h1
  exact backs_inj h1
theorem key_back (t v : Tp) : t.key ≠ v.back := fun h => by
  have h1 := lst_inj (kput_inj h)
  injection h1 with h1 _
  exact absurd h1 (by decide)
theorem less_key (t v : Tp) : less (lst t.parts) (lst v.parts) = Op.bytesLess t.key v.key := by
  unfold Tp.key
  rw [← less_kput]
  simp [lst, less, bl_irrefl]
theorem less_back (t v : Tp) : less (lst t.backs) (lst v.backs) = Op.bytesLess t.back v.back := by
  unfold Tp.back
  rw [← less_kput]
  simp [lst, less, bl_irrefl]

/-! what reading tells: a user, a tuple, of bytes; none: it is no text of one that may be -/
def RdU (s : List UInt8) (o : Option Us) : Prop := match o with
  | some u => u.ok = true ∧ u.show = s
  | none => ∀ u : Us, u.ok = true → u.show ≠ s
def RdT (s : List UInt8) (o : Option Tp) : Prop := match o with
  | some t => t.ok = true ∧ t.show = s
  | none => ∀ t : Tp, t.ok = true → t.show ≠ s
def RdK (s : List UInt8) (o : Option (Tp × Bool)) : Prop := match o with
  | some (t, b) => t.ok = true ∧ (if b then t.back else t.key) = s
  | none => ∀ t : Tp, t.ok = true → t.back ≠ s ∧ t.key ≠ s
theorem RdU.shown {u : Us} (h : u.ok = true) {o : Option Us} (hr : RdU u.show o) : o = some u := by
  cases o with
  | none => exact absurd rfl (hr u h)
  | some v => rw [Us.show_inj hr.1 h hr.2]
theorem RdT.shown {t : Tp} (h : t.ok = true) {o : Option Tp} (hr : RdT t.show o) : o = some t := by
  cases o with
  | none => exact absurd rfl (hr t h)
  | some v => rw [Tp.show_inj hr.1 h hr.2]
theorem RdK.key {t : Tp} (h : t.ok = true) {o : Option (Tp × Bool)} (hr : RdK t.key o) : o = some (t, false) := by
  cases o with
  | none => exact absurd rfl (hr t h).2
  | some v =>
    obtain ⟨v, b⟩ := v
    cases b with
    | false => rw [key_inj (show v.key = t.key from hr.2)]
    | true => exact absurd (show v.back = t.key from hr.2).symm (key_back t v)
theorem RdK.back {t : Tp} (h : t.ok = true) {o : Option (Tp × Bool)} (hr : RdK t.back o) : o = some (t, true) := by
  cases o with
  | none => exact absurd rfl (hr t h).1
  | some v =>
    obtain ⟨v, b⟩ := v
    cases b with
    | true => rw [back_inj (show v.back = t.back from hr.2)]
    | false => exact absurd (show v.key = t.back from hr.2) (key_back v t)
end Go.Proofs.Ytpiojnphbanggaa.TuplePlain
