/- Reading an expression: what each step tells. No memory, no program. -/
import Derived.Test.YtkmnbdomikpakaaDoorKRuleChkC
import Derived.Test.YtkmnbdomikpakaaDoorKRuleLex
import Derived.Test.YtkmnbdomikpakaaDoorKRuleWordC
namespace Go.Proofs.YtkmnbdomikpakaaDoor.RuleParse
open KeyPlain TuplePlain RulePlain RuleCan RuleLex RuleGl RuleAll RuleChkC RuleWord RuleWordC

theorem can_mk (op nm fo : ByteArray) (ps : List Ex) : Ex.can (.mk op nm fo ps) = (formS op nm fo ps.length && canS op nm fo && canL ps) := by rw [Ex.can]
theorem take_all : ∀ l : List UInt8, (l.takeWhile wch).all wch = true
  | [] => rfl
  | c :: l => by
    rw [List.takeWhile_cons]
    cases h : wch c with
    | true => simp only [if_true, List.all_cons, h, take_all l]; rfl
    | false => rfl
theorem drop_stop : ∀ l : List UInt8, Stop (l.dropWhile wch)
  | [] => trivial
  | c :: l => by
    rw [List.dropWhile_cons]
    cases h : wch c with
    | true => simp only [if_true]; exact drop_stop l
    | false => exact h
theorem split_word (l : List UInt8) : l.takeWhile wch ++ l.dropWhile wch = l := List.takeWhile_append_dropWhile
theorem take_of {u x : List UInt8} (hu : u.all wch = true) (hx : Stop x) : (u ++ x).takeWhile wch = u ∧ (u ++ x).dropWhile wch = x :=
  word_split (take_all _) hu (drop_stop _) hx (split_word _)
theorem em_bl (t : ByteArray) : em t = true ↔ bl t = [] := by
  unfold em
  rw [decide_eq_true_eq, ← bl_size]
  exact ⟨List.eq_nil_of_length_eq_zero, fun h => by rw [h]; rfl⟩
theorem word_of {t : ByteArray} (h : (bl t).all wch = true) (he : em t = false) : wordL (bl t) = true := by
  unfold wordL
  rw [h, Bool.and_true, decide_eq_true_eq]
  rcases Nat.eq_zero_or_pos (bl t).length with g | g
  · rw [(em_bl t).2 (List.eq_nil_of_length_eq_zero g)] at he; cases he
  · exact g
/-- how an expression's text begins -/
theorem text_head (e : Ex) (h : Ex.can e = true) (x : List UInt8) : ∃ c r, e.text ++ x = c :: r ∧ (c = 40 ∨ wch c = true) := by
  obtain ⟨op, nm, fo, ps⟩ := e
  rw [can_mk, Bool.and_eq_true, Bool.and_eq_true] at h
  rw [Ex.text]
  split
  · exact ⟨116, _, rfl, Or.inr (by decide)⟩
  · split
    · rename_i h1 h2
      have hc := h.1.2
      rw [canS, if_pos h2, Bool.and_eq_true] at hc
      obtain ⟨c, r, h3, h4⟩ := word_head (x := x) hc.1
      exact ⟨c, r, h3, Or.inr h4⟩
    · split
      · exact ⟨40, _, rfl, Or.inl rfl⟩
      · exact ⟨40, _, rfl, Or.inl rfl⟩
theorem rdW_can {t : ByteArray} (h : (bl t).all wch = true) (he : em t = false) : Ex.can (rdW t) = true := by
  unfold rdW
  split
  · decide
  · rename_i hn
    rw [can_mk]
    have h1 : formS kRel t ⟨#[]⟩ 0 = true := by rw [formS, if_neg (by decide), if_pos rfl]; rfl
    have h2 : canS kRel t ⟨#[]⟩ = true := by rw [canS, if_pos rfl, word_of h he, decide_eq_false hn]; rfl
    show (formS kRel t ⟨#[]⟩ 0 && canS kRel t ⟨#[]⟩ && canL []) = true
    rw [h1, h2]
    rfl
theorem rdW_text (t : ByteArray) : (rdW t).text = bl t := by
  unfold rdW
  split
  · rename_i h; rw [h]; rfl
  · rw [Ex.text, if_neg (by decide), if_pos rfl]
/-- a word, where no bracket is -/
theorem word_yes {s : List UInt8} {t : ByteArray} (ht : bl t = s.takeWhile wch) (he : em t = false) : ExAt s (some (rdW t, s.dropWhile wch)) :=
  ⟨rdW_can (by rw [ht]; exact take_all s) he, by rw [rdW_text, ht, split_word]⟩
theorem word_none {s : List UInt8} {t : ByteArray} (ht : bl t = s.takeWhile wch) (he : em t = true) (h40 : [40].isPrefixOf s = false) : ExAt s none := by
  intro e x hc _ h
  obtain ⟨c, r, h1, h2⟩ := text_head e hc x
  rw [h1] at h
  subst h
  rcases h2 with rfl | h2
  · simp [List.isPrefixOf] at h40
  · rw [(em_bl t).1 he, List.takeWhile_cons, h2] at ht
    cases ht
/-! behind a bracket -/
/-- so much has been read of a bracket's expression -/
structure NodeAt (s : List UInt8) (op : ByteArray) (ps : List Ex) (sk : List UInt8) : Prop where
  eq : s = 40 :: (bl op ++ (textL ps ++ sk))
  word : (bl op).all wch = true
  stop : ps = [] → Stop sk
  can : canL ps = true
  last : ∀ a p, ps = a ++ [p] → Wordy p → Stop sk
theorem parts_stop {ps : List Ex} {sk : List UInt8} (h : ps = [] → Stop sk) : Stop (textL ps ++ sk) := by
  cases ps with
  | nil => exact h rfl
  | cons e l => simp only [textL, List.cons_append]; exact wch_no (Or.inl rfl)
theorem parts_pre : ∀ (ps : List Ex) (sk : List UInt8) (es : List Ex) (x : List UInt8), canL ps = true → canL es = true → (∀ a p, ps = a ++ [p] → Wordy p → Stop sk) → textL ps ++ sk = textL es ++ 41 :: x →
    ∃ es', es = ps ++ es' ∧ canL es' = true ∧ sk = textL es' ++ 41 :: x
  | [], sk, es, x, _, he, _, h => ⟨es, rfl, he, by simpa [textL] using h⟩
  | p :: ps, sk, [], x, _, _, _, h => by simp [textL] at h
  | p :: ps, sk, e :: es, x, hp, he, hl, h => by
    simp only [canL, Bool.and_eq_true] at hp he
    simp only [textL, List.cons_append, List.append_assoc, List.cons.injEq, true_and] at h
    obtain ⟨rfl, h2⟩ := text_two p e (textL ps ++ sk) (textL es ++ 41 :: x) hp.1 he.1 (fun hw => parts_stop fun e => hl [] p (by rw [e]; rfl) hw) (fun _ => textL_stop es x) h
    obtain ⟨es', rfl, h3, h4⟩ := parts_pre ps sk es x hp.2 he.2 (fun a q hq => hl (p :: a) q (by rw [hq]; rfl)) h2
    exact ⟨es', rfl, h3, h4⟩
/-- whatever expression is there begins so -/
theorem node_read {s : List UInt8} {op : ByteArray} {ps : List Ex} {sk : List UInt8} (hN : NodeAt s op ps sk) (hop : op ≠ kFrom) {e : Ex} {x : List UInt8} (hc : Ex.can e = true) (h : s = e.text ++ x) :
    ∃ es', (op = kOr ∨ op = kAnd ∨ op = kBut) ∧ formS op ⟨#[]⟩ ⟨#[]⟩ (ps ++ es').length = true ∧ canL es' = true ∧ sk = textL es' ++ 41 :: x := by
  obtain ⟨op', nm, fo, es⟩ := e
  rw [can_mk, Bool.and_eq_true, Bool.and_eq_true] at hc
  obtain ⟨⟨hf, hcs⟩, hl⟩ := hc
  rw [hN.eq, Ex.text] at h
  by_cases h1 : op' = kThis
  · rw [if_pos h1] at h
    exact absurd h (by simp [bl])
  rw [if_neg h1] at h
  by_cases h2 : op' = kRel
  · rw [if_pos h2] at h
    rw [canS, if_pos h2, Bool.and_eq_true] at hcs
    obtain ⟨c, r, h3, h4⟩ := word_head (x := x) hcs.1
    rw [h3, List.cons.injEq] at h
    rw [← h.1] at h4
    exact absurd h4 (by decide)
  rw [if_neg h2] at h
  by_cases h3 : op' = kFrom
  · rw [if_pos h3] at h
    simp only [List.cons_append, List.append_assoc, List.cons.injEq, true_and] at h
    have := (word_split hN.word (by decide) (parts_stop hN.stop) (stop_c _ (Or.inl rfl)) h).1
    exact absurd (ba_of this) hop
  rw [if_neg h3] at h
  obtain ⟨ho, rfl, rfl⟩ := node_op hf h1 h2 h3
  simp only [List.cons_append, List.append_assoc, List.cons.injEq, true_and, List.nil_append] at h
  obtain ⟨e1, h⟩ := word_split hN.word (op_word ho).1 (parts_stop hN.stop) (textL_stop es x) h
  obtain ⟨es', rfl, h4, h5⟩ := parts_pre ps sk es x hN.can hl hN.last h
  rw [ba_of e1]
  exact ⟨es', ho, hf, h4, h5⟩
theorem node_nil {s : List UInt8} {op : ByteArray} {sk : List UInt8} (h : s = 40 :: (bl op ++ sk)) (hw : (bl op).all wch = true) (hs : Stop sk) : NodeAt s op [] sk :=
  ⟨by rw [h]; rfl, hw, fun _ => hs, rfl, fun a p e => by simp at e⟩
theorem textL_snoc : ∀ (ps : List Ex) (e : Ex), textL (ps ++ [e]) = textL ps ++ 32 :: e.text
  | [], e => by simp [textL]
  | p :: ps, e => by simp only [List.cons_append, textL, textL_snoc ps e, List.append_assoc]
theorem canL_snoc : ∀ (ps : List Ex) (e : Ex), canL (ps ++ [e]) = (canL ps && Ex.can e)
  | [], e => by simp [canL]
  | p :: ps, e => by simp only [List.cons_append, canL, canL_snoc ps e, Bool.and_assoc]
theorem node_more {s : List UInt8} {op : ByteArray} {ps : List Ex} {s' : List UInt8} {e : Ex} {x : List UInt8} (hN : NodeAt s op ps (32 :: s')) (he : ExAt s' (some (e, x))) (hx : Wordy e → Stop x) : NodeAt s op (ps ++ [e]) x := by
  refine ⟨?_, hN.word, fun h => by simp at h, by rw [canL_snoc, hN.can, he.1]; rfl, fun a p h hp => ?_⟩
  · rw [hN.eq, textL_snoc, he.2]
    simp
  · have := List.append_inj_right' h rfl
    simp only [List.cons.injEq, and_true] at this
    subst this
    exact hx hp
theorem node_less {s : List UInt8} {op : ByteArray} {ps : List Ex} {s' : List UInt8} (hN : NodeAt s op ps (32 :: s')) (hop : op ≠ kFrom) (he : ExAt s' none) : ExAt s none := by
  intro e x hc _ h
  obtain ⟨es', _, _, h3, h4⟩ := node_read hN hop hc h
  cases es' with
  | nil => simp [textL] at h4
  | cons e1 es =>
    simp only [canL, Bool.and_eq_true] at h3
    simp only [textL, List.cons_append, List.append_assoc, List.cons.injEq, true_and] at h4
    exact he e1 _ h3.1 (textL_stop es x) h4
theorem node_end {s : List UInt8} {op : ByteArray} {ps : List Ex} {sk : List UInt8} (hN : NodeAt s op ps sk) (hop : op ≠ kFrom) (h32 : [32].isPrefixOf sk = false) {e : Ex} {x : List UInt8} (hc : Ex.can e = true) (h : s = e.text ++ x) :
    (op = kOr ∨ op = kAnd ∨ op = kBut) ∧ formS op ⟨#[]⟩ ⟨#[]⟩ ps.length = true ∧ sk = 41 :: x := by
  obtain ⟨es', h1, h2, h3, h4⟩ := node_read hN hop hc h
  cases es' with
  | nil => exact ⟨h1, by simpa using h2, by simpa [textL] using h4⟩
  | cons e1 es =>
    rw [h4] at h32
    simp [textL, List.isPrefixOf] at h32
theorem node_form {op : ByteArray} {n : Nat} (ho : op = kOr ∨ op = kAnd ∨ op = kBut) (h : formS op ⟨#[]⟩ ⟨#[]⟩ n = true) (hn : n ≤ 1000000000) : formC op ⟨#[]⟩ ⟨#[]⟩ n = true ∧ 0 < n := by
  rw [formC_eq]
  unfold formS at h
  rcases ho with rfl | rfl | rfl
  · rw [if_neg (by decide), if_neg (by decide), if_neg (by decide), if_pos (Or.inl rfl)] at h ⊢
    simp only [Bool.and_eq_true, decide_eq_true_eq] at h
    exact ⟨by rw [show em ⟨#[]⟩ = true from rfl, decide_eq_true h.2, decide_eq_true (show (n : Int) ≤ anyMo by unfold anyMo; omega)]; rfl, by omega⟩
  · rw [if_neg (by decide), if_neg (by decide), if_neg (by decide), if_pos (Or.inr rfl)] at h ⊢
    simp only [Bool.and_eq_true, decide_eq_true_eq] at h
    exact ⟨by rw [show em ⟨#[]⟩ = true from rfl, decide_eq_true h.2, decide_eq_true (show (n : Int) ≤ anyMo by unfold anyMo; omega)]; rfl, by omega⟩
  · rw [if_neg (by decide), if_neg (by decide), if_neg (by decide), if_neg (by decide), if_pos rfl] at h ⊢
    simp only [Bool.and_eq_true, decide_eq_true_eq] at h
    exact ⟨by rw [show em ⟨#[]⟩ = true from rfl, decide_eq_true h.2]; rfl, by omega⟩
/-- it has no form -/
theorem node_bad {s : List UInt8} {op : ByteArray} {ps : List Ex} {sk : List UInt8} (hN : NodeAt s op ps sk) (hop : op ≠ kFrom) (h32 : [32].isPrefixOf sk = false) (hn : ps.length ≤ 1000000000) (hb : ps.length = 0 ∨ formC op ⟨#[]⟩ ⟨#[]⟩ ps.length = false ∨ [41].isPrefixOf sk = false) : ExAt s none := by
  intro e x hc _ h
  obtain ⟨h1, h2, h3⟩ := node_end hN hop h32 hc h
  obtain ⟨h4, h5⟩ := node_form h1 h2 hn
  rcases hb with hb | hb | hb
  · omega
  · rw [h4] at hb; cases hb
  · rw [h3] at hb; simp [List.isPrefixOf] at hb
theorem node_good {s : List UInt8} {op : ByteArray} {ps : List Ex} {x : List UInt8} (hN : NodeAt s op ps (41 :: x)) (h0 : 0 < ps.length) (hf : formC op ⟨#[]⟩ ⟨#[]⟩ ps.length = true) : ExAt s (some (.mk op ⟨#[]⟩ ⟨#[]⟩ ps, x)) := by
  have hs := form_le hf
  have hn : op ≠ kThis ∧ op ≠ kRel ∧ op ≠ kFrom := by
    refine ⟨?_, ?_, ?_⟩ <;> rintro rfl
    · rw [formS, if_pos rfl] at hs
      simp only [Bool.and_eq_true, decide_eq_true_eq] at hs
      omega
    · rw [formS, if_neg (by decide), if_pos rfl] at hs
      simp only [Bool.and_eq_true, decide_eq_true_eq] at hs
      omega
    · rw [formS, if_neg (by decide), if_neg (by decide), if_pos rfl] at hs
      simp only [decide_eq_true_eq] at hs
      omega
  refine ⟨?_, ?_⟩
  · rw [can_mk, hs, hN.can, canS, if_neg hn.2.1, if_neg hn.2.2]; rfl
  · rw [hN.eq, Ex.text, if_neg hn.1, if_neg hn.2.1, if_neg hn.2.2]
    simp
theorem node_wordy {op : ByteArray} {ps : List Ex} (h0 : 0 < ps.length) (hf : formC op ⟨#[]⟩ ⟨#[]⟩ ps.length = true) : ¬ Wordy (.mk op ⟨#[]⟩ ⟨#[]⟩ ps) := by
  have hs := form_le hf
  rintro (h | h)
  · simp only [Ex.op] at h
    subst h
    rw [formS, if_pos rfl] at hs
    simp only [Bool.and_eq_true, decide_eq_true_eq] at hs
    omega
  · simp only [Ex.op] at h
    subst h
    rw [formS, if_neg (by decide), if_pos rfl] at hs
    simp only [Bool.and_eq_true, decide_eq_true_eq] at hs
    omega
theorem textL_len : ∀ ps : List Ex, ps.length ≤ (textL ps).length
  | [] => Nat.le_refl _
  | e :: l => by
    have := textL_len l
    simp only [textL, List.length_cons, List.length_append]
    omega
theorem NodeAt.few {s : List UInt8} {op : ByteArray} {ps : List Ex} {sk : List UInt8} (h : NodeAt s op ps sk) : ps.length + sk.length < s.length := by
  have := textL_len ps
  rw [h.eq, List.length_cons, List.length_append, List.length_append]
  omega
/-! behind "(from" -/
theorem form_from (nm fo : ByteArray) : formC kFrom nm fo 0 = (!em nm && !em fo) := by
  rw [formC_eq, if_neg (by decide), if_neg (by decide), if_pos rfl]
  simp
theorem cut_stop {s : List UInt8} (hs : Stop s) (h : (cut [32] s).takeWhile wch ≠ []) : s = 32 :: cut [32] s := by
  unfold cut at h ⊢
  split
  · rename_i hp
    cases s with
    | nil => simp at hp
    | cons c l =>
      simp only [List.isPrefixOf, Bool.and_true, beq_iff_eq] at hp
      subst hp
      rfl
  · rename_i hp
    rw [if_neg hp] at h
    cases s with
    | nil => exact absurd rfl h
    | cons c l =>
      simp only [Stop] at hs
      rw [List.takeWhile_cons, hs] at h
      exact absurd rfl h
theorem cut_hit {p s : List UInt8} (h : p.isPrefixOf s = true) : s = p ++ cut p s := by
  unfold cut
  rw [if_pos h]
  obtain ⟨t, rfl⟩ := List.isPrefixOf_iff_prefix.1 h
  rw [List.drop_left]
theorem can_from {nm fo : ByteArray} (h1 : wordL (bl fo) = true) (h2 : wordL (bl nm) = true) : Ex.can (.mk kFrom nm fo []) = true := by
  rw [can_mk]
  have e1 : formS kFrom nm fo 0 = true := by rw [formS, if_neg (by decide), if_neg (by decide), if_pos rfl]; rfl
  have e2 : canS kFrom nm fo = true := by rw [canS, if_neg (by decide), if_pos rfl, h1, h2]; rfl
  show (formS kFrom nm fo 0 && canS kFrom nm fo && canL []) = true
  rw [e1, e2]
  rfl
/-- the steps of "(from": what was left behind each -/
structure FromAt (s s2 s3 s4 s5 s6 : List UInt8) (fo nm : ByteArray) : Prop where
  eq : s = 40 :: (bl kFrom ++ s2)
  stop : Stop s2
  e3 : s3 = cut [32] s2
  of : bl fo = s3.takeWhile wch
  e4 : s4 = s3.dropWhile wch
  e5 : s5 = cut [32] s4
  name : bl nm = s5.takeWhile wch
  e6 : s6 = s5.dropWhile wch
theorem from_yes {s s2 s3 s4 s5 s6 : List UInt8} {fo nm : ByteArray} (h : FromAt s s2 s3 s4 s5 s6 fo nm) (hf : formC kFrom nm fo 0 = true) (h41 : [41].isPrefixOf s6 = true) : ExAt s (some (.mk kFrom nm fo [], cut [41] s6)) := by
  rw [form_from, Bool.and_eq_true, Bool.not_eq_true', Bool.not_eq_true'] at hf
  have h1 : bl fo ≠ [] := fun e => by rw [(em_bl fo).2 e] at hf; exact absurd hf.2 (by simp)
  have h2 : bl nm ≠ [] := fun e => by rw [(em_bl nm).2 e] at hf; exact absurd hf.1 (by simp)
  have a1 := cut_stop h.stop (by rw [← h.e3, ← h.of]; exact h1)
  have a2 := cut_stop (s := s4) (by rw [h.e4]; exact drop_stop _) (by rw [← h.e5, ← h.name]; exact h2)
  rw [← h.e3] at a1
  rw [← h.e5] at a2
  have a3 := split_word s3
  have a4 := split_word s5
  rw [← h.of, ← h.e4] at a3
  rw [← h.name, ← h.e6] at a4
  refine ⟨can_from (word_of (by rw [h.of]; exact take_all _) hf.2) (word_of (by rw [h.name]; exact take_all _) hf.1), ?_⟩
  rw [Ex.text, if_neg (by decide), if_neg (by decide), if_pos rfl, h.eq, a1, ← a3, a2, ← a4]
  conv => lhs; rw [cut_hit h41]
  simp
theorem from_no {s s2 s3 s4 s5 s6 : List UInt8} {fo nm : ByteArray} (h : FromAt s s2 s3 s4 s5 s6 fo nm) (hb : formC kFrom nm fo 0 = false ∨ [41].isPrefixOf s6 = false) : ExAt s none := by
  intro e x hc _ he
  obtain ⟨op', nm', fo', es⟩ := e
  rw [can_mk, Bool.and_eq_true, Bool.and_eq_true] at hc
  obtain ⟨⟨hf, hcs⟩, hl⟩ := hc
  rw [h.eq, Ex.text] at he
  by_cases h1 : op' = kThis
  · rw [if_pos h1] at he
    exact absurd he (by simp [bl])
  rw [if_neg h1] at he
  by_cases h2 : op' = kRel
  · rw [if_pos h2] at he
    rw [canS, if_pos h2, Bool.and_eq_true] at hcs
    obtain ⟨c, r, h3, h4⟩ := word_head (x := x) hcs.1
    rw [h3, List.cons.injEq] at he
    rw [← he.1] at h4
    exact absurd h4 (by decide)
  rw [if_neg h2] at he
  by_cases h3 : op' = kFrom
  · rw [if_pos h3] at he
    simp only [List.cons_append, List.append_assoc, List.cons.injEq, true_and, List.nil_append] at he
    obtain ⟨_, he⟩ := word_split (by decide) (by decide) h.stop (stop_c _ (Or.inl rfl)) he
    rw [canS, if_neg h2, if_pos h3, Bool.and_eq_true] at hcs
    have c3 : s3 = bl fo' ++ 32 :: (bl nm' ++ 41 :: x) := by
      rw [h.e3, he]; rfl
    have hs41 : Stop (41 :: x) := wch_no (Or.inr (Or.inr (Or.inl rfl)))
    have t1 := take_of (word_all hcs.1) (stop_c (bl nm' ++ 41 :: x) (Or.inl rfl))
    have t2 := take_of (word_all hcs.2) hs41
    have c4 : s4 = 32 :: (bl nm' ++ 41 :: x) := by rw [h.e4, c3]; exact t1.2
    have c5 : s5 = bl nm' ++ 41 :: x := by rw [h.e5, c4]; rfl
    have cf : fo = fo' := ba_of (by rw [h.of, c3]; exact t1.1)
    have cn : nm = nm' := ba_of (by rw [h.name, c5]; exact t2.1)
    have c6 : s6 = 41 :: x := by rw [h.e6, c5]; exact t2.2
    subst cf cn
    rcases hb with hb | hb
    · rw [form_from] at hb
      have e1 : em fo = false := by
        cases g : em fo with
        | false => rfl
        | true => exact absurd ((em_bl fo).1 g) (word_ne hcs.1)
      have e2 : em nm = false := by
        cases g : em nm with
        | false => rfl
        | true => exact absurd ((em_bl nm).1 g) (word_ne hcs.2)
      rw [e1, e2] at hb
      cases hb
    · rw [c6] at hb
      simp [List.isPrefixOf] at hb
  rw [if_neg h3] at he
  obtain ⟨ho, rfl, rfl⟩ := node_op hf h1 h2 h3
  simp only [List.cons_append, List.append_assoc, List.cons.injEq, true_and, List.nil_append] at he
  obtain ⟨e1, _⟩ := word_split (by decide) (op_word ho).1 h.stop (textL_stop es x) he
  exact (op_word ho).2 (ba_of e1).symm
end Go.Proofs.YtkmnbdomikpakaaDoor.RuleParse
