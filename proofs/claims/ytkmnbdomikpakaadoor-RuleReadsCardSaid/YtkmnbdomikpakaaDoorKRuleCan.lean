/- RulePlain, RuleCan. -/
import Derived.Test.YtkmnbdomikpakaaDoorKTuplePlain
namespace Go.Proofs.YtkmnbdomikpakaaDoor.RulePlain
open KeyPlain TuplePlain

/-- an expression: its Op, Name, Of, Parts -/
inductive Ex where
  | mk (op nm fo : ByteArray) (ps : List Ex)
def Ex.op : Ex → ByteArray | .mk a _ _ _ => a
def Ex.nm : Ex → ByteArray | .mk _ a _ _ => a
def Ex.fo : Ex → ByteArray | .mk _ _ a _ => a
def Ex.ps : Ex → List Ex | .mk _ _ _ a => a
structure Rl where
  rel : ByteArray
  e : Ex
structure Kd where
  name : ByteArray
  rules : List Rl
mutual
def Ex.size : Ex → Nat
  | .mk _ _ _ ps => sizeL ps + 1
def sizeL : List Ex → Nat
  | [] => 0
  | e :: l => e.size + sizeL l
end
mutual
def Ex.deep : Ex → Nat
  | .mk _ _ _ ps => deepL ps + 1
def deepL : List Ex → Nat
  | [] => 0
  | e :: l => max e.deep (deepL l)
end
abbrev kThis : ByteArray := ⟨#[116, 104, 105, 115]⟩
abbrev kRel : ByteArray := ⟨#[114, 101, 108]⟩
abbrev kFrom : ByteArray := ⟨#[102, 114, 111, 109]⟩
abbrev kOr : ByteArray := ⟨#[111, 114]⟩
abbrev kAnd : ByteArray := ⟨#[97, 110, 100]⟩
abbrev kBut : ByteArray := ⟨#[98, 117, 116]⟩
abbrev kKind : ByteArray := ⟨#[107, 105, 110, 100]⟩
/-- an expression's own form -/
def formS (op nm fo : ByteArray) (n : Nat) : Bool :=
  if op = kThis then decide (nm.size = 0) && decide (fo.size = 0) && decide (n = 0)
  else if op = kRel then decide (fo.size = 0) && decide (n = 0)
  else if op = kFrom then decide (n = 0)
  else if op = kOr ∨ op = kAnd then decide (nm.size = 0) && decide (fo.size = 0) && decide (1 < n)
  else if op = kBut then decide (nm.size = 0) && decide (fo.size = 0) && decide (n = 2)
  else false
mutual
def Ex.form : Ex → Bool
  | .mk op nm fo ps => formS op nm fo ps.length && formL ps
def formL : List Ex → Bool
  | [] => true
  | e :: l => e.form && formL l
end
/-- a name here -/
def nameR (s : ByteArray) : Bool := nameL (bl s) && !(decide (s = kThis) || decide (s = kOr) || decide (s = kAnd) || decide (s = kBut) || decide (s = kFrom) || decide (s = kKind))
def Kd.has (k : Kd) (r : ByteArray) : Bool := k.rules.any fun x => decide (x.rel = r)
/-- an expression's own names -/
def namedS (k : Kd) (op nm fo : ByteArray) : Bool := if op = kFrom then k.has fo && nameR nm else if op = kRel then k.has nm else true
mutual
def Ex.named (k : Kd) : Ex → Bool
  | .mk op nm fo ps => namedS k op nm fo && namedL k ps
def namedL (k : Kd) : List Ex → Bool
  | [] => true
  | e :: l => e.named k && namedL k l
end
mutual
def Ex.but : Ex → Bool
  | .mk op _ _ ps => decide (op = kBut) || butL ps
def butL : List Ex → Bool
  | [] => false
  | e :: l => e.but || butL l
end
mutual
def Ex.short : Nat → Ex → Bool
  | 0, .mk _ _ _ _ => false
  | d + 1, .mk op nm fo ps => decide (op.size ≤ 100) && decide (nm.size ≤ 100) && decide (fo.size ≤ 100) && decide (ps.length ≤ 70) && shortL d ps
def shortL : Nat → List Ex → Bool
  | _, [] => true
  | d, e :: l => e.short d && shortL d l
end
mutual
def Ex.text : Ex → List UInt8
  | .mk op nm fo ps =>
    if op = kThis then bl kThis
    else if op = kRel then bl nm
    else if op = kFrom then 40 :: (bl kFrom ++ 32 :: (bl fo ++ 32 :: (bl nm ++ [41])))
    else 40 :: (bl op ++ (textL ps ++ [41]))
def textL : List Ex → List UInt8
  | [] => []
  | e :: l => 32 :: (e.text ++ textL l)
end
mutual
def Ex.beq : Ex → Ex → Bool
  | .mk op nm fo ps, .mk op' nm' fo' ps' => decide (op = op') && decide (nm = nm') && decide (fo = fo') && beqL ps ps'
def beqL : List Ex → List Ex → Bool
  | [], [] => true
  | e :: l, e' :: l' => e.beq e' && beqL l l'
  | _, _ => false
end
mutual
theorem Ex.beq_iff : ∀ (a b : Ex), a.beq b = true ↔ a = b
  | .mk op nm fo ps, .mk op' nm' fo' ps' => by
    simp only [Ex.beq, Bool.and_eq_true, decide_eq_true_eq, beqL_iff ps ps', Ex.mk.injEq, and_assoc]
theorem beqL_iff : ∀ (a b : List Ex), beqL a b = true ↔ a = b
  | [], [] => by simp [beqL]
  | [], _ :: _ => by simp [beqL]
  | _ :: _, [] => by simp [beqL]
  | e :: l, e' :: l' => by simp only [beqL, Bool.and_eq_true, Ex.beq_iff e e', beqL_iff l l', List.cons.injEq]
end
instance : DecidableEq Ex := fun a b => decidable_of_iff (a.beq b = true) (Ex.beq_iff a b)
instance : DecidableEq Rl := fun a b => decidable_of_iff (a.rel = b.rel ∧ a.e = b.e) (by cases a; cases b; simp)
instance : DecidableEq Kd := fun a b => decidable_of_iff (a.name = b.name ∧ a.rules = b.rules) (by cases a; cases b; simp)
def Rl.text (r : Rl) : List UInt8 := bl r.rel ++ (32 :: 61 :: 32 :: (r.e.text ++ [10]))
def Kd.text (k : Kd) : List UInt8 := bl kKind ++ (32 :: (bl k.name ++ (10 :: (k.rules.flatMap Rl.text))))
def show_ (l : List Kd) : List UInt8 := l.flatMap Kd.text
/-- the document's Check: too many, too deep, too great; a form; names -/
def deepK (l : List Kd) : Bool := decide (64 < l.length) || l.any fun k => decide (64 < k.rules.length) || k.rules.any fun r => decide (64 < r.e.size) || decide (8 < r.e.deep)
def formK (l : List Kd) : Bool := l.all fun k => k.rules.all fun r => r.e.form
/-- each is none of those ahead -/
def once : List ByteArray → List ByteArray → Bool
  | _, [] => true
  | pre, s :: l => !(pre.any fun x => decide (x = s)) && once (pre ++ [s]) l
def rightK (l : List Kd) : Bool := once [] (l.map (·.name)) && l.all fun k => nameR k.name && (once [] (k.rules.map (·.rel)) && k.rules.all fun r => nameR r.rel && r.e.named k)
def check (l : List Kd) : Int := if deepK l then 122 else if !formK l then 120 else if !rightK l then 121 else 0
def butK (l : List Kd) : Bool := l.any fun k => k.rules.any fun r => r.e.but
/-- the first kind's first rule of these names -/
def find (l : List Kd) (kind rel : ByteArray) : Option Ex := match l.find? (fun k => decide (k.name = kind)) with
  | none => none
  | some k => (k.rules.find? fun r => decide (r.rel = rel)).map (·.e)
def zex : Ex := .mk ⟨#[]⟩ ⟨#[]⟩ ⟨#[]⟩ []
/-- the law's Few, with the size as it is counted -/
def wrap (n : Nat) : Int := RowKit.wrap64 (n : Int)
def fewR (r : Rl) : Bool := r.e.short 30 && decide (wrap r.e.size ≤ 100) && decide (r.rel.size ≤ 100)
def fewK (k : Kd) : Bool := decide (k.rules.length ≤ 70) && decide (k.name.size ≤ 100) && k.rules.all fewR
def few (l : List Kd) : Bool := decide (l.length ≤ 70) && l.all fewK
theorem sizeL_take : ∀ (l : List Ex) (i : Nat) (h : i < l.length), sizeL (l.take (i + 1)) = sizeL (l.take i) + l[i].size
  | e :: l, 0, _ => by simp [sizeL]
  | e :: l, i + 1, h => by
    have := sizeL_take l i (by simpa using h)
    simp only [List.take_succ_cons, sizeL, List.getElem_cons_succ]
    omega
theorem size_mem : ∀ {l : List Ex} {e : Ex}, e ∈ l → e.size ≤ sizeL l
  | x :: l, e, h => by
    rcases List.mem_cons.1 h with rfl | h
    · simp only [sizeL]; omega
    · have := size_mem h
      simp only [sizeL]; omega
theorem Ex.size_part {e : Ex} {i : Nat} (h : i < e.ps.length) : (e.ps[i]).size < e.size := by
  obtain ⟨op, nm, fo, ps⟩ := e
  have := size_mem (List.getElem_mem h)
  simp only [Ex.size]
  exact Nat.lt_succ_of_le this
theorem deepL_take : ∀ (l : List Ex) (i : Nat) (h : i < l.length), deepL (l.take (i + 1)) = max (deepL (l.take i)) l[i].deep
  | e :: l, 0, _ => by simp [deepL]
  | e :: l, i + 1, h => by
    have := deepL_take l i (by simpa using h)
    simp only [List.take_succ_cons, deepL, List.getElem_cons_succ]
    omega
theorem deepL_mem : ∀ {l : List Ex} {e : Ex}, e ∈ l → e.deep ≤ deepL l
  | x :: l, e, h => by
    rcases List.mem_cons.1 h with rfl | h
    · simp only [deepL]; omega
    · have := deepL_mem h
      simp only [deepL]; omega
theorem deepL_le : ∀ (l : List Ex) (i : Nat), deepL (l.take i) ≤ deepL l
  | [], i => by simp
  | e :: l, 0 => by simp [deepL]
  | e :: l, i + 1 => by
    have := deepL_le l i
    simp only [List.take_succ_cons, deepL]
    omega
theorem formL_take : ∀ (l : List Ex) (i : Nat) (h : i < l.length), formL (l.take (i + 1)) = (formL (l.take i) && l[i].form)
  | e :: l, 0, _ => by simp [formL]
  | e :: l, i + 1, h => by
    have := formL_take l i (by simpa using h)
    simp only [List.take_succ_cons, formL, List.getElem_cons_succ, this, Bool.and_assoc]
theorem namedL_take (k : Kd) : ∀ (l : List Ex) (i : Nat) (h : i < l.length), namedL k (l.take (i + 1)) = (namedL k (l.take i) && l[i].named k)
  | e :: l, 0, _ => by simp [namedL]
  | e :: l, i + 1, h => by
    have := namedL_take k l i (by simpa using h)
    simp only [List.take_succ_cons, namedL, List.getElem_cons_succ, this, Bool.and_assoc]
theorem butL_take : ∀ (l : List Ex) (i : Nat) (h : i < l.length), butL (l.take (i + 1)) = (butL (l.take i) || l[i].but)
  | e :: l, 0, _ => by simp [butL]
  | e :: l, i + 1, h => by
    have := butL_take l i (by simpa using h)
    simp only [List.take_succ_cons, butL, List.getElem_cons_succ, this, Bool.or_assoc]
theorem shortL_take (d : Nat) : ∀ (l : List Ex) (i : Nat) (h : i < l.length), shortL d (l.take (i + 1)) = (shortL d (l.take i) && l[i].short d)
  | e :: l, 0, _ => by simp [shortL]
  | e :: l, i + 1, h => by
    have := shortL_take d l i (by simpa using h)
    simp only [List.take_succ_cons, shortL, List.getElem_cons_succ, this, Bool.and_assoc]
theorem textL_take : ∀ (l : List Ex) (i : Nat) (h : i < l.length), textL (l.take (i + 1)) = textL (l.take i) ++ 32 :: l[i].text
  | e :: l, 0, _ => by simp [textL]
  | e :: l, i + 1, h => by
    have := textL_take l i (by simpa using h)
    simp only [List.take_succ_cons, textL, List.getElem_cons_succ, this, List.append_assoc, List.cons_append]
theorem shortL_cut (d : Nat) : ∀ (l : List Ex) (i : Nat) (h : i < l.length), (l[i]).short d = false → shortL d l = false
  | e :: l, 0, _, q => by simp only [shortL, show e.short d = false from q, Bool.false_and]
  | e :: l, i + 1, h, q => by simp only [shortL, shortL_cut d l i (by simpa using h) q, Bool.and_false]
theorem textL_mem : ∀ {l : List Ex} {e : Ex}, e ∈ l → e.text.length + 1 ≤ (textL l).length
  | x :: l, e, h => by
    rcases List.mem_cons.1 h with rfl | h
    · simp only [textL, List.length_cons, List.length_append]; omega
    · have := textL_mem h
      simp only [textL, List.length_cons, List.length_append]; omega
theorem textL_le : ∀ (l : List Ex) (i : Nat), (textL (l.take i)).length ≤ (textL l).length
  | [], i => by simp
  | e :: l, 0 => by simp [textL]
  | e :: l, i + 1 => by
    have := textL_le l i
    simp only [List.take_succ_cons, textL, List.length_cons, List.length_append]
    omega
mutual
def Ex.slim : Ex → Bool
  | .mk op nm fo ps => decide (op.size ≤ 1000000) && decide (nm.size ≤ 1000000) && decide (fo.size ≤ 1000000) && decide (ps.length ≤ 1000000) && slimL ps
def slimL : List Ex → Bool
  | [] => true
  | e :: l => e.slim && slimL l
end
theorem slimL_mem : ∀ {l : List Ex} {e : Ex}, e ∈ l → slimL l = true → e.slim = true
  | x :: l, e, h, hs => by
    simp only [slimL, Bool.and_eq_true] at hs
    rcases List.mem_cons.1 h with rfl | h
    · exact hs.1
    · exact slimL_mem h hs.2
theorem shortL_mem {d : Nat} : ∀ {l : List Ex} {e : Ex}, e ∈ l → shortL d l = true → e.short d = true
  | x :: l, e, h, hs => by
    simp only [shortL, Bool.and_eq_true] at hs
    rcases List.mem_cons.1 h with rfl | h
    · exact hs.1
    · exact shortL_mem h hs.2
theorem slimL_of : ∀ {l : List Ex}, (∀ e, e ∈ l → e.slim = true) → slimL l = true
  | [], _ => rfl
  | e :: l, h => by
    have h1 := h e (by simp)
    have h2 := slimL_of (l := l) fun x hx => h x (by simp [hx])
    simp only [slimL, h1, h2, Bool.and_true]
theorem Ex.slim_short : ∀ (d : Nat) (e : Ex), e.short d = true → e.slim = true
  | 0, .mk _ _ _ _, h => by simp [Ex.short] at h
  | d + 1, .mk op nm fo ps, h => by
    simp only [Ex.short, Bool.and_eq_true, decide_eq_true_eq] at h
    obtain ⟨⟨⟨⟨h1, h2⟩, h3⟩, h4⟩, h5⟩ := h
    simp only [Ex.slim, Bool.and_eq_true, decide_eq_true_eq]
    exact ⟨⟨⟨⟨by omega, by omega⟩, by omega⟩, by omega⟩, slimL_of fun e he => Ex.slim_short d e (shortL_mem he h5)⟩
theorem Ex.deep_short : ∀ (d : Nat) (e : Ex), e.short d = true → e.deep ≤ d
  | 0, .mk _ _ _ _, h => by simp [Ex.short] at h
  | d + 1, .mk op nm fo ps, h => by
    simp only [Ex.short, Bool.and_eq_true] at h
    have k : ∀ l : List Ex, (∀ e, e ∈ l → e.deep ≤ d) → deepL l ≤ d := fun l => by
      induction l with
      | nil => intro _; simp [deepL]
      | cons e l ih =>
        intro hh
        have h1 := hh e (by simp)
        have h2 := ih fun x hx => hh x (by simp [hx])
        simp only [deepL]
        omega
    have := k ps fun e he => Ex.deep_short d e (shortL_mem he h.2)
    simp only [Ex.deep]
    omega
end Go.Proofs.YtkmnbdomikpakaaDoor.RulePlain
namespace Go.Proofs.YtkmnbdomikpakaaDoor.RuleCan
open KeyPlain TuplePlain RulePlain

/-- a word's letters -/
def wch (c : UInt8) : Bool := low c || dig c || c == 95
def wordL (l : List UInt8) : Bool := decide (1 ≤ l.length) && l.all wch
/-- an expression's own words, as a text tells them -/
def canS (op nm fo : ByteArray) : Bool := if op = kRel then wordL (bl nm) && !decide (nm = kThis) else if op = kFrom then wordL (bl fo) && wordL (bl nm) else true
mutual
def Ex.can : Ex → Bool
  | .mk op nm fo ps => formS op nm fo ps.length && canS op nm fo && canL ps
def canL : List Ex → Bool
  | [] => true
  | e :: l => Ex.can e && canL l
end
def Rl.can (r : Rl) : Bool := wordL (bl r.rel) && Ex.can r.e
def Kd.can (k : Kd) : Bool := wordL (bl k.name) && k.rules.all Rl.can
def can (l : List Kd) : Bool := l.all Kd.can
/-- ends a word: nothing, or no word's letter -/
def Stop : List UInt8 → Prop
  | [] => True
  | c :: _ => wch c = false
theorem word_split : ∀ {u v x y : List UInt8}, u.all wch = true → v.all wch = true → Stop x → Stop y → u ++ x = v ++ y → u = v ∧ x = y
  | [], [], _, _, _, _, _, _, h => ⟨rfl, by simpa using h⟩
  | [], d :: v, x, y, _, hv, hx, _, h => by
    simp only [List.nil_append, List.cons_append] at h
    subst h
    simp only [Stop] at hx
    simp only [List.all_cons, Bool.and_eq_true] at hv
    rw [hv.1] at hx
    cases hx
  | c :: u, [], x, y, hu, _, _, hy, h => by
    simp only [List.nil_append, List.cons_append] at h
    subst h
    simp only [Stop] at hy
    simp only [List.all_cons, Bool.and_eq_true] at hu
    rw [hu.1] at hy
    cases hy
  | c :: u, d :: v, x, y, hu, hv, hx, hy, h => by
    simp only [List.cons_append, List.cons.injEq] at h
    simp only [List.all_cons, Bool.and_eq_true] at hu hv
    obtain ⟨h1, h2⟩ := word_split hu.2 hv.2 hx hy h.2
    exact ⟨by rw [h.1, h1], h2⟩
theorem word_all {l : List UInt8} (h : wordL l = true) : l.all wch = true := by
  simp only [wordL, Bool.and_eq_true] at h
  exact h.2
theorem word_ne {l : List UInt8} (h : wordL l = true) : l ≠ [] := by
  simp only [wordL, Bool.and_eq_true, decide_eq_true_eq] at h
  intro e
  rw [e] at h
  simp at h
theorem word_head {l x : List UInt8} (h : wordL l = true) : ∃ c r, l ++ x = c :: r ∧ wch c = true := by
  cases l with
  | nil => exact absurd rfl (word_ne h)
  | cons c r =>
    have := word_all h
    simp only [List.all_cons, Bool.and_eq_true] at this
    exact ⟨c, r ++ x, rfl, this.1⟩
/-- which kind of expression a form is -/
inductive Kind where
  | this | rel | from_ | node
def shape (op : ByteArray) : Kind := if op = kThis then .this else if op = kRel then .rel else if op = kFrom then .from_ else .node
theorem size_nil {s : ByteArray} (h : s.size = 0) : s = ⟨#[]⟩ := size_zero h
theorem len_nil {α : Type} {l : List α} (h : l.length = 0) : l = [] := List.eq_nil_of_length_eq_zero h
/-- a node's word is or, and, but -/
theorem node_op {op nm fo : ByteArray} {n : Nat} (h : formS op nm fo n = true) (h1 : op ≠ kThis) (h2 : op ≠ kRel) (h3 : op ≠ kFrom) : (op = kOr ∨ op = kAnd ∨ op = kBut) ∧ nm = ⟨#[]⟩ ∧ fo = ⟨#[]⟩ := by
  simp only [formS, if_neg h1, if_neg h2, if_neg h3] at h
  split at h
  · simp only [Bool.and_eq_true, decide_eq_true_eq] at h
    rename_i ho
    exact ⟨ho.elim Or.inl (fun q => Or.inr (Or.inl q)), size_nil h.1.1, size_nil h.1.2⟩
  · split at h
    · simp only [Bool.and_eq_true, decide_eq_true_eq] at h
      rename_i ho
      exact ⟨Or.inr (Or.inr ho), size_nil h.1.1, size_nil h.1.2⟩
    · cases h
theorem wch_no {c : UInt8} (h : c = 32 ∨ c = 40 ∨ c = 41 ∨ c = 10) : wch c = false := by
  rcases h with rfl | rfl | rfl | rfl <;> decide
theorem stop_c {c : UInt8} (x : List UInt8) (h : c = 32 ∨ c = 40 ∨ c = 41 ∨ c = 10) : Stop (c :: x) := wch_no h
theorem op_word {op : ByteArray} (h : op = kOr ∨ op = kAnd ∨ op = kBut) : (bl op).all wch = true ∧ op ≠ kFrom := by
  rcases h with rfl | rfl | rfl <;> exact ⟨by decide, by decide⟩
theorem textL_stop (ps : List Ex) (x : List UInt8) : Stop (textL ps ++ 41 :: x) := by
  cases ps with
  | nil => exact wch_no (Or.inr (Or.inr (Or.inl rfl)))
  | cons e l => simp only [textL, List.cons_append]; exact wch_no (Or.inl rfl)
/-- a word alone -/
def Wordy (e : Ex) : Prop := e.op = kThis ∨ e.op = kRel
mutual
theorem text_two : ∀ (a b : Ex) (x y : List UInt8), Ex.can a = true → Ex.can b = true → (Wordy a → Stop x) → (Wordy b → Stop y) → a.text ++ x = b.text ++ y → a = b ∧ x = y
  | .mk op nm fo ps, .mk op' nm' fo' ps', x, y, ha, hb, hx, hy, h => by
    simp only [Ex.can, Bool.and_eq_true] at ha hb
    obtain ⟨⟨hf, hc⟩, hl⟩ := ha
    obtain ⟨⟨hf', hc'⟩, hl'⟩ := hb
    simp only [Ex.text] at h
    have tw : (bl kThis).all wch = true := by decide
    by_cases h1 : op = kThis
    · rw [if_pos h1] at h
      have e1 : nm = ⟨#[]⟩ ∧ fo = ⟨#[]⟩ ∧ ps = [] := by
        simp only [formS, if_pos h1, Bool.and_eq_true, decide_eq_true_eq] at hf
        exact ⟨size_nil hf.1.1, size_nil hf.1.2, len_nil hf.2⟩
      by_cases g1 : op' = kThis
      · rw [if_pos g1] at h
        have e2 : nm' = ⟨#[]⟩ ∧ fo' = ⟨#[]⟩ ∧ ps' = [] := by
          simp only [formS, if_pos g1, Bool.and_eq_true, decide_eq_true_eq] at hf'
          exact ⟨size_nil hf'.1.1, size_nil hf'.1.2, len_nil hf'.2⟩
        refine ⟨?_, (word_split tw tw (hx (Or.inl h1)) (hy (Or.inl g1)) h).2⟩
        rw [h1, g1, e1.1, e1.2.1, e1.2.2, e2.1, e2.2.1, e2.2.2]
      · rw [if_neg g1] at h
        by_cases g2 : op' = kRel
        · rw [if_pos g2] at h
          simp only [canS, if_pos g2, Bool.and_eq_true, Bool.not_eq_true', decide_eq_false_iff_not] at hc'
          exact absurd (ba_of (word_split tw (word_all hc'.1) (hx (Or.inl h1)) (hy (Or.inr g2)) h).1).symm hc'.2
        · rw [if_neg g2] at h
          split at h <;> exact absurd h (by simp [bl])
    · rw [if_neg h1] at h
      by_cases h2 : op = kRel
      · rw [if_pos h2] at h
        simp only [canS, if_pos h2, Bool.and_eq_true, Bool.not_eq_true', decide_eq_false_iff_not] at hc
        have e1 : fo = ⟨#[]⟩ ∧ ps = [] := by
          simp only [formS, if_neg h1, if_pos h2, Bool.and_eq_true, decide_eq_true_eq] at hf
          exact ⟨size_nil hf.1, len_nil hf.2⟩
        by_cases g1 : op' = kThis
        · rw [if_pos g1] at h
          exact absurd (ba_of (word_split (word_all hc.1) tw (hx (Or.inr h2)) (hy (Or.inl g1)) h).1) hc.2
        · rw [if_neg g1] at h
          by_cases g2 : op' = kRel
          · rw [if_pos g2] at h
            simp only [canS, if_pos g2, Bool.and_eq_true, Bool.not_eq_true', decide_eq_false_iff_not] at hc'
            have e2 : fo' = ⟨#[]⟩ ∧ ps' = [] := by
              simp only [formS, if_neg g1, if_pos g2, Bool.and_eq_true, decide_eq_true_eq] at hf'
              exact ⟨size_nil hf'.1, len_nil hf'.2⟩
            obtain ⟨e3, e4⟩ := word_split (word_all hc.1) (word_all hc'.1) (hx (Or.inr h2)) (hy (Or.inr g2)) h
            refine ⟨?_, e4⟩
            rw [h2, g2, ba_of e3, e1.1, e1.2, e2.1, e2.2]
          · rw [if_neg g2] at h
            obtain ⟨c, r, hcr, hcw⟩ := word_head (x := x) hc.1
            rw [hcr] at h
            split at h <;> (simp only [List.cons_append, List.cons.injEq] at h; rw [h.1] at hcw; exact absurd hcw (by decide))
      · rw [if_neg h2] at h
        by_cases g1 : op' = kThis
        · rw [if_pos g1] at h
          split at h <;> exact absurd h (by simp [bl])
        rw [if_neg g1] at h
        by_cases g2 : op' = kRel
        · rw [if_pos g2] at h
          simp only [canS, if_pos g2, Bool.and_eq_true] at hc'
          obtain ⟨c, r, hcr, hcw⟩ := word_head (x := y) hc'.1
          rw [hcr] at h
          split at h <;> (simp only [List.cons_append, List.cons.injEq] at h; rw [← h.1] at hcw; exact absurd hcw (by decide))
        rw [if_neg g2] at h
        have fw : (bl kFrom).all wch = true := by decide
        by_cases h3 : op = kFrom
        · rw [if_pos h3] at h
          simp only [canS, if_neg h2, if_pos h3, Bool.and_eq_true] at hc
          have e1 : ps = [] := by
            simp only [formS, if_neg h1, if_neg h2, if_pos h3, decide_eq_true_eq] at hf
            exact len_nil hf
          by_cases g3 : op' = kFrom
          · rw [if_pos g3] at h
            simp only [canS, if_neg g2, if_pos g3, Bool.and_eq_true] at hc'
            have e2 : ps' = [] := by
              simp only [formS, if_neg g1, if_neg g2, if_pos g3, decide_eq_true_eq] at hf'
              exact len_nil hf'
            simp only [List.cons_append, List.append_assoc, List.cons.injEq, true_and, List.append_cancel_left_eq, List.nil_append] at h
            obtain ⟨e3, h⟩ := word_split (word_all hc.1) (word_all hc'.1) (stop_c _ (Or.inl rfl)) (stop_c _ (Or.inl rfl)) h
            simp only [List.cons.injEq, true_and] at h
            obtain ⟨e4, h⟩ := word_split (word_all hc.2) (word_all hc'.2) (stop_c _ (Or.inr (Or.inr (Or.inl rfl)))) (stop_c _ (Or.inr (Or.inr (Or.inl rfl)))) h
            simp only [List.cons.injEq, true_and] at h
            refine ⟨?_, h⟩
            rw [h3, g3, ba_of e3, ba_of e4, e1, e2]
          · rw [if_neg g3] at h
            obtain ⟨ho', _, _⟩ := node_op hf' g1 g2 g3
            simp only [List.cons_append, List.append_assoc, List.cons.injEq, true_and, List.nil_append] at h
            have := (word_split fw (op_word ho').1 (stop_c _ (Or.inl rfl)) (textL_stop ps' y) h).1
            exact absurd (ba_of this).symm (op_word ho').2
        · rw [if_neg h3] at h
          obtain ⟨ho, e1, e2⟩ := node_op hf h1 h2 h3
          by_cases g3 : op' = kFrom
          · rw [if_pos g3] at h
            simp only [List.cons_append, List.append_assoc, List.cons.injEq, true_and, List.nil_append] at h
            have := (word_split (op_word ho).1 fw (textL_stop ps x) (stop_c _ (Or.inl rfl)) h).1
            exact absurd (ba_of this) (op_word ho).2
          · rw [if_neg g3] at h
            obtain ⟨ho', e1', e2'⟩ := node_op hf' g1 g2 g3
            simp only [List.cons_append, List.append_assoc, List.cons.injEq, true_and, List.nil_append] at h
            obtain ⟨e3, h⟩ := word_split (op_word ho).1 (op_word ho').1 (textL_stop ps x) (textL_stop ps' y) h
            obtain ⟨e4, e5⟩ := textL_one ps ps' x y hl hl' h
            refine ⟨?_, e5⟩
            rw [ba_of e3, e1, e2, e1', e2', e4]
theorem textL_one : ∀ (a b : List Ex) (x y : List UInt8), canL a = true → canL b = true → textL a ++ 41 :: x = textL b ++ 41 :: y → a = b ∧ x = y
  | [], [], x, y, _, _, h => by
    simp only [textL, List.nil_append, List.cons.injEq, true_and] at h
    exact ⟨rfl, h⟩
  | [], e :: l, x, y, _, _, h => by simp [textL] at h
  | e :: l, [], x, y, _, _, h => by simp [textL] at h
  | e :: l, e' :: l', x, y, ha, hb, h => by
    simp only [canL, Bool.and_eq_true] at ha hb
    simp only [textL, List.cons_append, List.append_assoc, List.cons.injEq, true_and] at h
    obtain ⟨e1, h⟩ := text_two e e' _ _ ha.1 hb.1 (fun _ => textL_stop l x) (fun _ => textL_stop l' y) h
    obtain ⟨e2, e3⟩ := textL_one l l' x y ha.2 hb.2 h
    exact ⟨by rw [e1, e2], e3⟩
end
theorem text_one (a b : Ex) (x y : List UInt8) (ha : Ex.can a = true) (hb : Ex.can b = true) (hx : Stop x) (hy : Stop y) (h : a.text ++ x = b.text ++ y) : a = b ∧ x = y := text_two a b x y ha hb (fun _ => hx) (fun _ => hy) h
mutual
theorem text_lf : ∀ (e : Ex), Ex.can e = true → (10 : UInt8) ∉ e.text
  | .mk op nm fo ps, h => by
    simp only [Ex.can, Bool.and_eq_true] at h
    obtain ⟨⟨hf, hc⟩, hl⟩ := h
    have hw : ∀ l : List UInt8, l.all wch = true → (10 : UInt8) ∉ l := fun l hl hm => by
      have := List.all_eq_true.1 hl 10 hm
      exact absurd this (by decide)
    simp only [Ex.text]
    split
    · exact hw _ (by decide)
    · rename_i h1
      split
      · rename_i h2
        simp only [canS, if_pos h2, Bool.and_eq_true] at hc
        exact hw _ (word_all hc.1)
      · rename_i h2
        split
        · rename_i h3
          simp only [canS, if_neg h2, if_pos h3, Bool.and_eq_true] at hc
          have w1 := hw _ (word_all hc.1)
          have w2 := hw _ (word_all hc.2)
          have w3 : (10 : UInt8) ∉ bl kFrom := by decide
          simp only [List.mem_cons, List.mem_append, List.not_mem_nil, or_false, w1, w2, w3, false_or]
          decide
        · rename_i h3
          have w1 := hw _ (op_word (node_op hf h1 h2 h3).1).1
          have w2 := textL_lf ps hl
          simp only [List.mem_cons, List.mem_append, List.not_mem_nil, or_false, w1, w2, false_or]
          decide
theorem textL_lf : ∀ (l : List Ex), canL l = true → (10 : UInt8) ∉ textL l
  | [], _ => by simp [textL]
  | e :: l, h => by
    simp only [canL, Bool.and_eq_true] at h
    have w1 := text_lf e h.1
    have w2 := textL_lf l h.2
    simp only [textL, List.mem_cons, List.mem_append, w1, w2, or_false]
    decide
end
/-! lines -/
def lineK (k : Kd) : List UInt8 := bl kKind ++ 32 :: bl k.name
def lineR (r : Rl) : List UInt8 := bl r.rel ++ 32 :: 61 :: 32 :: r.e.text
def lines (l : List Kd) : List (List UInt8) := l.flatMap fun k => lineK k :: k.rules.map lineR
def flat (ls : List (List UInt8)) : List UInt8 := ls.flatMap fun b => b ++ [10]
theorem flat_append (a b : List (List UInt8)) : flat (a ++ b) = flat a ++ flat b := by simp [flat]
theorem flat_rules (rs : List Rl) : rs.flatMap Rl.text = flat (rs.map lineR) := by
  induction rs with
  | nil => rfl
  | cons r rs ih =>
    simp only [List.flatMap_cons, List.map_cons, ih, flat, List.flatMap_cons]
    simp [Rl.text, lineR]
theorem show_flat (l : List Kd) : show_ l = flat (lines l) := by
  induction l with
  | nil => rfl
  | cons k l ih =>
    have : show_ (k :: l) = k.text ++ show_ l := by simp [show_]
    rw [this, ih]
    have e : lines (k :: l) = lineK k :: (k.rules.map lineR ++ lines l) := by simp [lines]
    rw [e, show flat (lineK k :: (k.rules.map lineR ++ lines l)) = (lineK k ++ [10]) ++ flat (k.rules.map lineR ++ lines l) from by simp [flat], flat_append, ← flat_rules]
    simp [Kd.text, lineK]
theorem word_lf {l : List UInt8} (h : wordL l = true) : (10 : UInt8) ∉ l := fun hm => absurd (List.all_eq_true.1 (word_all h) 10 hm) (by decide)
theorem lineK_lf {k : Kd} (h : Kd.can k = true) : (10 : UInt8) ∉ lineK k := by
  simp only [Kd.can, Bool.and_eq_true] at h
  have w1 := word_lf h.1
  have w2 : (10 : UInt8) ∉ bl kKind := by decide
  simp only [lineK, List.mem_append, List.mem_cons, w1, w2, false_or, or_false]
  decide
theorem lineR_lf {r : Rl} (h : Rl.can r = true) : (10 : UInt8) ∉ lineR r := by
  simp only [Rl.can, Bool.and_eq_true] at h
  have w1 := word_lf h.1
  have w2 := text_lf r.e h.2
  simp only [lineR, List.mem_append, List.mem_cons, w1, w2, false_or, or_false]
  decide
theorem lineR_one {r s : Rl} (hr : Rl.can r = true) (hs : Rl.can s = true) (h : lineR r = lineR s) : r = s := by
  simp only [Rl.can, Bool.and_eq_true] at hr hs
  obtain ⟨h1, h⟩ := word_split (word_all hr.1) (word_all hs.1) (stop_c _ (Or.inl rfl)) (stop_c _ (Or.inl rfl)) h
  simp only [List.cons.injEq, true_and] at h
  have h2 := (text_one r.e s.e [] [] hr.2 hs.2 trivial trivial (by rw [List.append_nil, List.append_nil]; exact h)).1
  obtain ⟨a, b⟩ := r
  obtain ⟨c, d⟩ := s
  simp only [Rl.mk.injEq]
  exact ⟨ba_of h1, h2⟩
theorem lineK_one {k m : Kd} (h : lineK k = lineK m) : k.name = m.name := by
  simp only [lineK, List.append_cancel_left_eq, List.cons.injEq, true_and] at h
  exact ba_of h
theorem lineKR {k : Kd} {r : Rl} (hk : Kd.can k = true) (hr : Rl.can r = true) : lineK k ≠ lineR r := fun h => by
  simp only [Kd.can, Bool.and_eq_true] at hk
  simp only [Rl.can, Bool.and_eq_true] at hr
  have kw : (bl kKind).all wch = true := by decide
  obtain ⟨_, h⟩ := word_split kw (word_all hr.1) (stop_c _ (Or.inl rfl)) (stop_c _ (Or.inl rfl)) h
  simp only [List.cons.injEq, true_and] at h
  obtain ⟨c, r', hc, hw⟩ := word_head (x := []) hk.1
  rw [List.append_nil] at hc
  rw [hc] at h
  simp only [List.cons.injEq] at h
  rw [h.1] at hw
  exact absurd hw (by decide)
theorem lines_cons (k : Kd) (l : List Kd) : lines (k :: l) = lineK k :: (k.rules.map lineR ++ lines l) := by simp [lines]
theorem can_cons {k : Kd} {l : List Kd} : can (k :: l) = true ↔ Kd.can k = true ∧ can l = true := by simp [can]
theorem rules_can {k : Kd} (h : Kd.can k = true) : k.rules.all Rl.can = true := by simp only [Kd.can, Bool.and_eq_true] at h; exact h.2
theorem rules_one : ∀ (rs ss : List Rl) (l m : List Kd), rs.all Rl.can = true → ss.all Rl.can = true → can l = true → can m = true → rs.map lineR ++ lines l = ss.map lineR ++ lines m → rs = ss ∧ lines l = lines m
  | [], [], l, m, _, _, _, _, h => ⟨rfl, by simpa using h⟩
  | [], s :: ss, [], m, _, _, _, _, h => by simp [lines] at h
  | [], s :: ss, k :: l, m, _, hs, hl, _, h => by
    rw [lines_cons] at h
    simp only [List.map_nil, List.nil_append, List.map_cons, List.cons_append, List.cons.injEq] at h
    simp only [List.all_cons, Bool.and_eq_true] at hs
    exact absurd h.1 (lineKR (can_cons.1 hl).1 hs.1)
  | r :: rs, [], l, [], _, _, _, _, h => by simp [lines] at h
  | r :: rs, [], l, k :: m, hr, _, _, hm, h => by
    rw [lines_cons] at h
    simp only [List.map_nil, List.nil_append, List.map_cons, List.cons_append, List.cons.injEq] at h
    simp only [List.all_cons, Bool.and_eq_true] at hr
    exact absurd h.1.symm (lineKR (can_cons.1 hm).1 hr.1)
  | r :: rs, s :: ss, l, m, hr, hs, hl, hm, h => by
    simp only [List.map_cons, List.cons_append, List.cons.injEq] at h
    simp only [List.all_cons, Bool.and_eq_true] at hr hs
    obtain ⟨h1, h2⟩ := rules_one rs ss l m hr.2 hs.2 hl hm h.2
    exact ⟨by rw [lineR_one hr.1 hs.1 h.1, h1], h2⟩
theorem lines_one : ∀ (l m : List Kd), can l = true → can m = true → lines l = lines m → l = m
  | [], [], _, _, _ => rfl
  | [], k :: m, _, _, h => by rw [lines_cons] at h; simp [lines] at h
  | k :: l, [], _, _, h => by rw [lines_cons] at h; simp [lines] at h
  | k :: l, k' :: m, hl, hm, h => by
    rw [lines_cons, lines_cons] at h
    simp only [List.cons.injEq] at h
    obtain ⟨hk, hl⟩ := can_cons.1 hl
    obtain ⟨hk', hm⟩ := can_cons.1 hm
    obtain ⟨h1, h2⟩ := rules_one _ _ l m (rules_can hk) (rules_can hk') hl hm h.2
    have h3 := lines_one l m hl hm h2
    have h4 := lineK_one h.1
    obtain ⟨a, b⟩ := k
    obtain ⟨c, d⟩ := k'
    simp only at h1 h4
    rw [h1, h3, h4]
theorem lines_lf {l : List Kd} (h : can l = true) : ∀ b, b ∈ lines l → (10 : UInt8) ∉ b := by
  intro b hb
  simp only [lines, List.mem_flatMap, List.mem_cons, List.mem_map] at hb
  obtain ⟨k, hk, hb⟩ := hb
  have hc := List.all_eq_true.1 h k hk
  rcases hb with rfl | ⟨r, hr, rfl⟩
  · exact lineK_lf hc
  · exact lineR_lf (List.all_eq_true.1 (rules_can hc) r hr)
theorem flat_pre : ∀ (b a : List (List UInt8)) (rest : List UInt8), (∀ x, x ∈ a → (10 : UInt8) ∉ x) → (∀ x, x ∈ b → (10 : UInt8) ∉ x) → flat a = flat b ++ rest → ∃ c, a = b ++ c ∧ rest = flat c
  | [], a, rest, _, _, h => ⟨a, rfl, by simpa [flat] using h.symm⟩
  | x :: b, [], rest, _, _, h => by simp [flat] at h
  | x :: b, y :: a, rest, ha, hb, h => by
    have h' : y ++ 10 :: flat a = x ++ 10 :: (flat b ++ rest) := by simpa [flat] using h
    obtain ⟨h1, h2⟩ := split_at (ha y (by simp)) (hb x (by simp)) h'
    obtain ⟨c, h3, h4⟩ := flat_pre b a rest (fun z hz => ha z (by simp [hz])) (fun z hz => hb z (by simp [hz])) h2
    exact ⟨c, by rw [h1, h3]; rfl, h4⟩
theorem show_one {l m : List Kd} (hl : can l = true) (hm : can m = true) (h : show_ l = show_ m) : l = m := by
  rw [show_flat, show_flat] at h
  obtain ⟨c, h1, h2⟩ := flat_pre (lines m) (lines l) [] (lines_lf hl) (lines_lf hm) (by rw [List.append_nil]; exact h)
  have hc : c = [] := by
    cases c with
    | nil => rfl
    | cons x c => simp [flat] at h2
  rw [hc, List.append_nil] at h1
  exact lines_one l m hl hm h1
/-- a line of a text: a kind's, or, behind one, a rule's -/
def Right (first : Bool) (b : List UInt8) : Prop := (∃ k : Kd, Kd.can k = true ∧ b = lineK k) ∨ (first = false ∧ ∃ r : Rl, Rl.can r = true ∧ b = lineR r)
/-- what is left begins with no right line -/
def NoLine (first : Bool) (rest : List UInt8) : Prop := ∀ b r, rest = b ++ 10 :: r → (10 : UInt8) ∉ b → ¬ Right first b
theorem line_right {l : List Kd} (h : can l = true) : ∀ b, b ∈ lines l → Right false b := by
  intro b hb
  simp only [lines, List.mem_flatMap, List.mem_cons, List.mem_map] at hb
  obtain ⟨k, hk, hb⟩ := hb
  have hc := List.all_eq_true.1 h k hk
  rcases hb with rfl | ⟨r, hr, rfl⟩
  · exact Or.inl ⟨k, hc, rfl⟩
  · exact Or.inr ⟨rfl, r, List.all_eq_true.1 (rules_can hc) r hr, rfl⟩
theorem lines_nil {l : List Kd} (h : lines l = []) : l = [] := by
  cases l with
  | nil => rfl
  | cons k l => rw [lines_cons] at h; cases h
/-- the text of rules has no wrong line -/
theorem no_rest {l m : List Kd} {rest : List UInt8} (hl : can l = true) (hm : can m = true) (h : show_ l = show_ m ++ rest) (hr : rest ≠ []) : ¬ NoLine m.isEmpty rest := by
  intro hn
  rw [show_flat, show_flat] at h
  obtain ⟨c, h1, h2⟩ := flat_pre (lines m) (lines l) rest (lines_lf hl) (lines_lf hm) h
  cases c with
  | nil => exact hr (by simpa [flat] using h2)
  | cons x c =>
    have hx : x ∈ lines l := by rw [h1]; simp
    refine hn x (flat c) (by rw [h2]; simp [flat]) (lines_lf hl x hx) ?_
    cases m with
    | nil =>
      cases l with
      | nil => simp [lines] at h1
      | cons k l =>
        rw [lines_cons] at h1
        simp only [lines, List.flatMap_nil, List.nil_append, List.cons.injEq] at h1
        exact Or.inl ⟨k, (can_cons.1 hl).1, h1.1.symm⟩
    | cons k m => exact line_right hl x hx
end Go.Proofs.YtkmnbdomikpakaaDoor.RuleCan
