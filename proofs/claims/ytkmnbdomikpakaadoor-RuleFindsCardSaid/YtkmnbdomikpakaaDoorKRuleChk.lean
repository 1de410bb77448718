/- RuleFacts, RuleChk. -/
import Derived.Test.YtkmnbdomikpakaaDoorKRuleCan
namespace Go.Proofs.YtkmnbdomikpakaaDoor.RuleFacts
open KeyPlain TuplePlain RulePlain RuleCan

theorem check_iff (l : List Kd) : check l = 0 ↔ deepK l = false ∧ formK l = true ∧ rightK l = true := by
  unfold check
  cases deepK l <;> cases formK l <;> cases rightK l <;> simp
theorem check_cases (l : List Kd) : check l = 0 ∨ check l = 120 ∨ check l = 121 ∨ check l = 122 := by
  unfold check
  cases deepK l <;> cases formK l <;> cases rightK l <;> simp
theorem few_one {l : List Kd} (h : few l = true) {k : Kd} (hk : k ∈ l) : few [k] = true := by
  simp only [few, Bool.and_eq_true] at h
  have h1 := List.all_eq_true.1 h.2 k hk
  simp [few, h1]
theorem check_one {l : List Kd} (h : check l = 0) {k : Kd} (hk : k ∈ l) : check [k] = 0 := by
  rw [check_iff] at h ⊢
  obtain ⟨h1, h2, h3⟩ := h
  refine ⟨?_, ?_, ?_⟩
  · simp only [deepK, Bool.or_eq_false_iff] at h1 ⊢
    refine ⟨by simp, ?_⟩
    have := List.any_eq_false.1 h1.2 k hk
    simpa using this
  · simp only [formK] at h2 ⊢
    have := List.all_eq_true.1 h2 k hk
    simpa using this
  · simp only [rightK, Bool.and_eq_true] at h3 ⊢
    have := List.all_eq_true.1 h3.2 k hk
    refine ⟨by simp [once], ?_⟩
    simpa using this
theorem check_size {l : List Kd} (h : check l = 0) {k : Kd} (hk : k ∈ l) {r : Rl} (hr : r ∈ k.rules) : r.e.size ≤ 64 ∧ r.e.deep ≤ 8 := by
  have h1 := (check_iff l).1 h |>.1
  simp only [deepK, Bool.or_eq_false_iff] at h1
  have h2 := List.any_eq_false.1 h1.2 k hk
  simp only [Bool.or_eq_true, not_or, Bool.not_eq_true] at h2
  have h3 := List.any_eq_false.1 h2.2 r hr
  simp only [Bool.or_eq_true, decide_eq_true_eq, not_or] at h3
  omega
theorem check_len {l : List Kd} (h : check l = 0) : l.length ≤ 64 ∧ ∀ k, k ∈ l → k.rules.length ≤ 64 := by
  have h1 := (check_iff l).1 h |>.1
  simp only [deepK, Bool.or_eq_false_iff, decide_eq_false_iff_not] at h1
  refine ⟨by omega, fun k hk => ?_⟩
  have h2 := List.any_eq_false.1 h1.2 k hk
  simp only [Bool.or_eq_true, decide_eq_true_eq, not_or] at h2
  omega
theorem text_len : ∀ (d : Nat) (e : Ex), e.short d = true → e.text.length + 1 ≤ 310 * e.size
  | 0, .mk _ _ _ _, h => by simp [Ex.short] at h
  | d + 1, .mk op nm fo ps, h => by
    simp only [Ex.short, Bool.and_eq_true, decide_eq_true_eq] at h
    obtain ⟨⟨⟨⟨h1, h2⟩, h3⟩, _⟩, h5⟩ := h
    have k : ∀ l : List Ex, (∀ e, e ∈ l → e.text.length + 1 ≤ 310 * e.size) → (textL l).length ≤ 310 * sizeL l := fun l => by
      induction l with
      | nil => intro _; simp [textL, sizeL]
      | cons e l ih =>
        intro hh
        have a := hh e (by simp)
        have b := ih fun x hx => hh x (by simp [hx])
        simp only [textL, sizeL, List.length_cons, List.length_append]
        omega
    have hk := k ps fun e he => text_len d e (shortL_mem he h5)
    have t1 : kThis.size = 4 := rfl
    have t2 : kFrom.size = 4 := rfl
    simp only [Ex.text, Ex.size]
    split
    · rw [bl_size]; omega
    · split
      · rw [bl_size]; omega
      · split
        · simp only [List.length_cons, List.length_append, List.length_nil, bl_size]; omega
        · simp only [List.length_cons, List.length_append, List.length_nil, bl_size]; omega
theorem flat_len {α : Type} (f : α → List UInt8) (l : List α) (n : Nat) (h : ∀ a, a ∈ l → (f a).length ≤ n) : (l.flatMap f).length ≤ n * l.length := by
  induction l with
  | nil => simp
  | cons a l ih =>
    have h1 := h a (by simp)
    have h2 := ih fun x hx => h x (by simp [hx])
    simp only [List.flatMap_cons, List.length_append, List.length_cons]
    rw [Nat.mul_add]
    omega
theorem fewK_of {l : List Kd} (h : few l = true) {k : Kd} (hk : k ∈ l) : k.name.size ≤ 100 ∧ ∀ r, r ∈ k.rules → r.e.short 30 = true ∧ r.rel.size ≤ 100 := by
  simp only [few, Bool.and_eq_true] at h
  have h1 := List.all_eq_true.1 h.2 k hk
  simp only [fewK, Bool.and_eq_true, decide_eq_true_eq] at h1
  refine ⟨h1.1.2, fun r hr => ?_⟩
  have h2 := List.all_eq_true.1 h1.2 r hr
  simp only [fewR, Bool.and_eq_true, decide_eq_true_eq] at h2
  exact ⟨h2.1.1, h2.2⟩
theorem show_len {l : List Kd} (h : few l = true) (hc : check l = 0) : (show_ l).length ≤ 100000000 := by
  have hl := check_len hc
  have hk : ∀ k, k ∈ l → k.text.length ≤ 1300000 := fun k hk => by
    obtain ⟨f1, f2⟩ := fewK_of h hk
    have hr : ∀ r, r ∈ k.rules → r.text.length ≤ 20000 := fun r hr => by
      have t := text_len 30 r.e (f2 r hr).1
      have z := (check_size hc hk hr).1
      have q := (f2 r hr).2
      simp only [Rl.text, List.length_append, List.length_cons, List.length_nil, bl_size]
      omega
    have t := flat_len Rl.text k.rules 20000 hr
    have n := hl.2 k hk
    have t1 : kKind.size = 4 := rfl
    simp only [Kd.text, List.length_append, List.length_cons, bl_size]
    have m : 20000 * k.rules.length ≤ 20000 * 64 := Nat.mul_le_mul_left _ n
    omega
  have t := flat_len Kd.text l 1300000 hk
  have m : 1300000 * l.length ≤ 1300000 * 64 := Nat.mul_le_mul_left _ hl.1
  unfold show_
  omega
/-! in another order -/
theorem any_rot {α : Type} (p : α → Bool) (a b : List α) : (b ++ a).any p = (a ++ b).any p := by rw [List.any_append, List.any_append, Bool.or_comm]
theorem all_rot {α : Type} (p : α → Bool) (a b : List α) : (b ++ a).all p = (a ++ b).all p := by rw [List.all_append, List.all_append, Bool.and_comm]
theorem once_iff : ∀ (l pre : List ByteArray), once pre l = true ↔ (∀ s, s ∈ l → s ∉ pre) ∧ l.Nodup
  | [], pre => by simp [once]
  | s :: l, pre => by
    rw [once, Bool.and_eq_true, once_iff l (pre ++ [s]), List.nodup_cons]
    have e : (!(pre.any fun x => decide (x = s))) = true ↔ s ∉ pre := by
      rw [Bool.not_eq_true', List.any_eq_false]
      exact ⟨fun h hm => h s hm (by simp), fun h x hx he => h (by rw [← of_decide_eq_true he]; exact hx)⟩
    rw [e]
    constructor
    · rintro ⟨h1, h2, h3⟩
      refine ⟨fun x hx => ?_, fun hs => h2 s hs (by simp), h3⟩
      rcases List.mem_cons.1 hx with rfl | hx
      · exact h1
      · exact fun hp => h2 x hx (List.mem_append_left _ hp)
    · rintro ⟨h1, h2, h3⟩
      refine ⟨h1 s (by simp), fun x hx hp => ?_, h3⟩
      rcases List.mem_append.1 hp with hp | hp
      · exact h1 x (by simp [hx]) hp
      · rw [List.mem_singleton.1 hp] at hx
        exact h2 hx
theorem once_rot (a b : List ByteArray) : once [] (b ++ a) = once [] (a ++ b) := by
  rw [Bool.eq_iff_iff, once_iff, once_iff]
  have e : (b ++ a).Nodup ↔ (a ++ b).Nodup := (List.perm_append_comm).nodup_iff
  rw [e]
  simp
/-- two lists of kinds: the same but for the order of each kind's rules -/
def Alike (l m : List Kd) : Prop := l.length = m.length ∧ ∀ i (h : i < l.length) (h' : i < m.length), (l[i]).name = (m[i]).name ∧ ∃ a b, (l[i]).rules = a ++ b ∧ (m[i]).rules = b ++ a
theorem all_alike {l m : List Kd} (h : Alike l m) (p : Kd → Bool) (hp : ∀ n a b, p ⟨n, a ++ b⟩ = p ⟨n, b ++ a⟩) : l.all p = m.all p := by
  have k : ∀ l m, Alike l m → l.all p = true → m.all p = true := fun l m h g => by
    rw [List.all_eq_true] at g ⊢
    intro x hx
    obtain ⟨i, hi, rfl⟩ := List.mem_iff_getElem.1 hx
    have hi' : i < l.length := by rw [h.1]; exact hi
    obtain ⟨h1, a, b, h2, h3⟩ := h.2 i hi' hi
    have := g _ (List.getElem_mem hi')
    rw [show l[i] = ⟨(l[i]).name, (l[i]).rules⟩ from rfl, h2, hp] at this
    rw [show m[i] = ⟨(m[i]).name, (m[i]).rules⟩ from rfl, ← h1, h3]
    exact this
  have sy : Alike m l := ⟨h.1.symm, fun i h1 h2 => by
    obtain ⟨h3, a, b, h4, h5⟩ := h.2 i h2 h1
    exact ⟨h3.symm, b, a, h5, h4⟩⟩
  rw [Bool.eq_iff_iff]
  exact ⟨k l m h, k m l sy⟩
theorem any_alike {l m : List Kd} (h : Alike l m) (p : Kd → Bool) (hp : ∀ n a b, p ⟨n, a ++ b⟩ = p ⟨n, b ++ a⟩) : l.any p = m.any p := by
  have := all_alike h (fun k => !p k) (fun n a b => by simp only [hp n a b])
  rw [List.any_eq_not_all_not, List.any_eq_not_all_not, this]
theorem names_alike {l m : List Kd} (h : Alike l m) : l.map (·.name) = m.map (·.name) := by
  apply List.ext_getElem (by simp [h.1])
  intro i h1 h2
  simp only [List.length_map] at h1 h2
  simp only [List.getElem_map]
  exact (h.2 i h1 h2).1
theorem named_has (e : Ex) {k k' : Kd} (hh : ∀ r, k.has r = k'.has r) : e.named k = e.named k' := by
  have : ∀ (N : Nat) (e : Ex) {k k' : Kd}, e.size ≤ N → (∀ r, k.has r = k'.has r) → e.named k = e.named k' := fun N => by
    induction N with
    | zero => intro e; obtain ⟨op, nm, fo, ps⟩ := e; intro k k' h; simp only [Ex.size] at h; omega
    | succ N ih =>
      intro e
      obtain ⟨op, nm, fo, ps⟩ := e
      intro k k' h hh
      simp only [Ex.size] at h
      have e1 : namedS k op nm fo = namedS k' op nm fo := by simp only [namedS, hh]
      have e2 : ∀ l : List Ex, (∀ e, e ∈ l → e.named k = e.named k') → namedL k l = namedL k' l := fun l => by
        induction l with
        | nil => intro _; simp [namedL]
        | cons e l ih2 =>
          intro hq
          have a := hq e (by simp)
          have b := ih2 fun x hx => hq x (by simp [hx])
          simp only [namedL, a, b]
      have e3 := e2 ps fun e he => ih e (by have := size_mem he; omega) hh
      simp only [Ex.named, e1, e3]
  exact this e.size e (Nat.le_refl _) hh
theorem check_alike {l m : List Kd} (h : Alike l m) : check l = check m := by
  have e1 : deepK l = deepK m := by
    unfold deepK
    rw [h.1, any_alike h _ fun n a b => by simp only [any_rot, List.length_append, Nat.add_comm]]
  have e2 : formK l = formK m := all_alike h _ fun _ a b => all_rot _ b a
  have e3 : rightK l = rightK m := by
    unfold rightK
    rw [names_alike h]
    congr 1
    refine all_alike h _ fun n a b => ?_
    have hm : ∀ e : Ex, e.named ⟨n, a ++ b⟩ = e.named ⟨n, b ++ a⟩ := fun e => named_has e fun r => any_rot _ b a
    simp only [List.map_append, once_rot (b.map (·.rel)) (a.map (·.rel)), hm]
    rw [all_rot _ b a]
  unfold check
  rw [e1, e2, e3]
theorem but_alike {l m : List Kd} (h : Alike l m) : butK l = butK m := any_alike h _ fun _ a b => any_rot _ b a
theorem check_rot (a b : List Kd) : check (b ++ a) = check (a ++ b) := by
  have e1 : deepK (b ++ a) = deepK (a ++ b) := by unfold deepK; rw [any_rot]; simp only [List.length_append, Nat.add_comm]
  have e2 : formK (b ++ a) = formK (a ++ b) := all_rot _ _ _
  have e3 : rightK (b ++ a) = rightK (a ++ b) := by unfold rightK; rw [all_rot, List.map_append, List.map_append, once_rot]
  unfold check
  rw [e1, e2, e3]
theorem but_rot (a b : List Kd) : butK (b ++ a) = butK (a ++ b) := any_rot _ _ _
end Go.Proofs.YtkmnbdomikpakaaDoor.RuleFacts
namespace Go.Proofs.YtkmnbdomikpakaaDoor.RuleChk
open KeyPlain TuplePlain RulePlain RuleCan RuleFacts

def dR (r : Rl) : Bool := decide (64 < wrap r.e.size) || decide (8 < r.e.deep)
def dK (k : Kd) : Bool := decide (64 < k.rules.length) || k.rules.any dR
def deepW (l : List Kd) : Bool := decide (64 < l.length) || l.any dK
/-- a rule, behind these of the kind k -/
def okR (k : Kd) (pre : List Rl) (r : Rl) : Bool := nameR r.rel && r.e.named k && pre.all fun x => decide (x.rel ≠ r.rel)
def rulesI (k : Kd) : List Rl → List Rl → Bool
  | _, [] => true
  | pre, r :: l => okR k pre r && rulesI k (pre ++ [r]) l
def okK (pre : List Kd) (k : Kd) : Bool := nameR k.name && (pre.all fun x => decide (x.name ≠ k.name)) && rulesI k [] k.rules
def kindsI : List Kd → List Kd → Bool
  | _, [] => true
  | pre, k :: l => okK pre k && kindsI (pre ++ [k]) l
theorem rulesI_snoc (k : Kd) : ∀ (pre l : List Rl) (r : Rl), rulesI k pre (l ++ [r]) = (rulesI k pre l && okR k (pre ++ l) r)
  | pre, [], r => by simp [rulesI]
  | pre, x :: l, r => by
    simp only [List.cons_append, rulesI, rulesI_snoc k (pre ++ [x]) l r, Bool.and_assoc, List.append_assoc, List.nil_append]
theorem kindsI_snoc : ∀ (pre l : List Kd) (k : Kd), kindsI pre (l ++ [k]) = (kindsI pre l && okK (pre ++ l) k)
  | pre, [], k => by simp [kindsI]
  | pre, x :: l, k => by
    simp only [List.cons_append, kindsI, kindsI_snoc (pre ++ [x]) l k, Bool.and_assoc, List.append_assoc, List.nil_append]
theorem rulesI_take (k : Kd) (l : List Rl) (i : Nat) (h : i < l.length) : rulesI k [] (l.take (i + 1)) = (rulesI k [] (l.take i) && okR k (l.take i) l[i]) := by
  rw [List.take_succ_eq_append_getElem h, rulesI_snoc, List.nil_append]
theorem kindsI_take (l : List Kd) (i : Nat) (h : i < l.length) : kindsI [] (l.take (i + 1)) = (kindsI [] (l.take i) && okK (l.take i) l[i]) := by
  rw [List.take_succ_eq_append_getElem h, kindsI_snoc, List.nil_append]
theorem any_take {α : Type} (p : α → Bool) (l : List α) (i : Nat) (h : i < l.length) : (l.take (i + 1)).any p = ((l.take i).any p || p l[i]) := by
  rw [List.take_succ_eq_append_getElem h, List.any_append]
  simp
theorem all_take' {α : Type} (p : α → Bool) (l : List α) (i : Nat) (h : i < l.length) : (l.take (i + 1)).all p = ((l.take i).all p && p l[i]) := by
  rw [List.take_succ_eq_append_getElem h, List.all_append]
  simp
theorem rulesI_iff (k : Kd) : ∀ (l pre : List Rl), rulesI k pre l = (once (pre.map (·.rel)) (l.map (·.rel)) && l.all fun r => nameR r.rel && r.e.named k)
  | [], pre => rfl
  | r :: l, pre => by
    simp only [rulesI, List.map_cons, once, List.all_cons, rulesI_iff k l (pre ++ [r]), List.map_append, List.map_nil, okR]
    have e : (pre.all fun x => decide (x.rel ≠ r.rel)) = !((pre.map (·.rel)).any fun x => decide (x = r.rel)) := by
      rw [List.any_map, List.all_eq_not_any_not]
      congr 1
      simp [Function.comp_def]
    rw [e]
    generalize (!((pre.map (·.rel)).any fun x => decide (x = r.rel))) = a
    generalize nameR r.rel = b
    generalize r.e.named k = c
    generalize once (List.map (fun x => x.rel) pre ++ [r.rel]) (List.map (fun x => x.rel) l) = d
    generalize (l.all fun r => nameR r.rel && r.e.named k) = f
    cases a <;> cases b <;> cases c <;> cases d <;> cases f <;> rfl
theorem kindsI_iff : ∀ (l pre : List Kd), kindsI pre l = (once (pre.map (·.name)) (l.map (·.name)) && l.all fun k => nameR k.name && (once [] (k.rules.map (·.rel)) && k.rules.all fun r => nameR r.rel && r.e.named k))
  | [], pre => rfl
  | k :: l, pre => by
    simp only [kindsI, List.map_cons, once, List.all_cons, kindsI_iff l (pre ++ [k]), List.map_append, List.map_nil, okK, rulesI_iff k k.rules []]
    have e : (pre.all fun x => decide (x.name ≠ k.name)) = !((pre.map (·.name)).any fun x => decide (x = k.name)) := by
      rw [List.any_map, List.all_eq_not_any_not]
      congr 1
      simp [Function.comp_def]
    rw [e]
    generalize (!((pre.map (·.name)).any fun x => decide (x = k.name))) = a
    generalize nameR k.name = b
    generalize (once [] (k.rules.map (·.rel)) && k.rules.all fun r => nameR r.rel && r.e.named k) = c
    generalize once (List.map (fun x => x.name) pre ++ [k.name]) (List.map (fun x => x.name) l) = d
    generalize (l.all fun k => nameR k.name && (once [] (k.rules.map (·.rel)) && k.rules.all fun r => nameR r.rel && r.e.named k)) = f
    cases a <;> cases b <;> cases c <;> cases d <;> cases f <;> rfl
theorem right_kinds (l : List Kd) : rightK l = kindsI [] l := (kindsI_iff l []).symm
/-- as it is counted -/
def checkW (l : List Kd) : Int := if deepW l then 122 else if !formK l then 120 else if !kindsI [] l then 121 else 0
theorem wrap_small {n : Nat} (h : n ≤ 9223372036854775807) : wrap n = (n : Int) := by simp only [wrap, RowKit.wrap64]; omega
theorem lt_wrap {n : Nat} (h : n ≤ 9223372036854775807) : (64 < wrap n) = (64 < n) := by
  rw [wrap_small h]
  exact propext ⟨fun q => by omega, fun q => by omega⟩
theorem dR_eq {r : Rl} (h : r.e.size ≤ 9223372036854775807 ∨ 8 < r.e.deep) : dR r = (decide (64 < r.e.size) || decide (8 < r.e.deep)) := by
  unfold dR
  rcases h with h | h
  · have e := lt_wrap h
    simp only [e]
  · rw [decide_eq_true h, Bool.or_true, Bool.or_true]
theorem any_eq {α : Type} {p q : α → Bool} : ∀ {l : List α}, (∀ a, a ∈ l → p a = q a) → l.any p = l.any q
  | [], _ => rfl
  | a :: l, h => by rw [List.any_cons, List.any_cons, h a (by simp), any_eq fun x hx => h x (by simp [hx])]
theorem deepW_eq {l : List Kd} (h : ∀ k, k ∈ l → ∀ r, r ∈ k.rules → r.e.size ≤ 9223372036854775807 ∨ 8 < r.e.deep) : deepW l = deepK l := by
  unfold deepW deepK
  rw [any_eq (p := dK) fun k hk => show dK k = (decide (64 < k.rules.length) || k.rules.any fun r => decide (64 < r.e.size) || decide (8 < r.e.deep)) from by
    unfold dK
    rw [any_eq (p := dR) fun r hr => dR_eq (h k hk r hr)]]
theorem checkW_eq {l : List Kd} (h : ∀ k, k ∈ l → ∀ r, r ∈ k.rules → r.e.size ≤ 9223372036854775807 ∨ 8 < r.e.deep) : checkW l = check l := by
  unfold checkW check
  rw [deepW_eq h, right_kinds]
theorem size_deep : ∀ (d n : Nat) (e : Ex), e.short d = true → e.deep ≤ n → e.size ≤ 71 ^ n
  | 0, _, .mk _ _ _ _, h, _ => by simp [Ex.short] at h
  | d + 1, 0, .mk op nm fo ps, _, h => by simp [Ex.deep] at h
  | d + 1, n + 1, .mk op nm fo ps, h, hd => by
    simp only [Ex.short, Bool.and_eq_true, decide_eq_true_eq] at h
    simp only [Ex.deep] at hd
    have k : ∀ l : List Ex, (∀ e, e ∈ l → e.size ≤ 71 ^ n) → sizeL l ≤ l.length * 71 ^ n := fun l => by
      induction l with
      | nil => intro _; simp [sizeL]
      | cons e l ih =>
        intro hh
        have a := hh e (by simp)
        have b := ih fun x hx => hh x (by simp [hx])
        simp only [sizeL, List.length_cons, Nat.add_mul]
        omega
    have hk := k ps fun e he => size_deep d n e (shortL_mem he h.2) (by have := deepL_mem he; omega)
    have hm : ps.length * 71 ^ n ≤ 70 * 71 ^ n := Nat.mul_le_mul_right _ h.1.2
    have hp : 1 ≤ 71 ^ n := Nat.one_le_pow _ _ (by omega)
    simp only [Ex.size, Nat.pow_succ]
    omega
theorem few_sizes {l : List Kd} (h : few l = true) : ∀ k, k ∈ l → ∀ r, r ∈ k.rules → r.e.size ≤ 9223372036854775807 ∨ 8 < r.e.deep := fun k hk r hr => by
  by_cases hd : r.e.deep ≤ 8
  · have := size_deep 30 8 r.e ((fewK_of h hk).2 r hr).1 hd
    have e : (71 : Nat) ^ 8 = 645753531245761 := by decide
    rw [e] at this
    exact Or.inl (by omega)
  · exact Or.inr (by omega)
end Go.Proofs.YtkmnbdomikpakaaDoor.RuleChk
