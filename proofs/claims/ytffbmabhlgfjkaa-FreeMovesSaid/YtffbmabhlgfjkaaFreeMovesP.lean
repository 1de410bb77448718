/- Plain facts for FreeMoves: what is taken and put leaves each page once. -/
import Derived.Test.YtffbmabhlgfjkaaFreeLaw
namespace Go.Proofs.Ytffbmabhlgfjkaa.FreeMovesP
open Go.RowKit Base FreePlain FreePlain2 FreeMem FreeCov FreeCover FreeRefCover FreeLaw

/-- what stands at a round's start -/
structure Mv (N : Nat) (lf : Fs) (us : List Int) : Prop where
  gd : Gd lf
  few : ∀ p ∈ lf, p.2 ≤ 5
  onc : Onc (pgs lf ++ us) N
theorem Mv.len {N : Nat} {lf : Fs} {us : List Int} (h : Mv N lf us) : lf.length + us.length = N := by
  have := h.onc.2.2
  simpa [pgs] using this
theorem Mv.w1 {N : Nat} {lf : Fs} {us : List Int} (h : Mv N lf us) : ∀ p ∈ lf, W64 p.1 := fun p hp => by
  have := h.gd.1 p hp
  exact WalkArith.wf_i64 (by obtain ⟨a, b, _⟩ := this; omega)
theorem Mv.range {N : Nat} {lf : Fs} {us : List Int} (h : Mv N lf us) : ∀ x ∈ us, 2 ≤ x ∧ x < 2 + (N : Int) := fun x hx => h.onc.2.1 x (List.mem_append_right _ hx)
theorem Mv.w2 {N : Nat} {lf : Fs} {us : List Int} (h : Mv N lf us) (hN : N ≤ 1000) : ∀ x ∈ us, W64 x := fun x hx => by
  have := h.range x hx
  exact WalkArith.wf_i64 (by omega)
theorem first_all {q : Int × Int} {t : Fs} (h : q.2 ≤ 5) : first 5 (q :: t) = (some q.1, t) := by simp [first, h]
theorem Mv.take {N : Nat} {q : Int × Int} {t : Fs} {us : List Int} (h : Mv N (q :: t) us) : Mv N t (us ++ [q.1]) := by
  refine ⟨⟨fun p hp => h.gd.1 p (by simp [hp]), (rise_cons.1 h.gd.2).2⟩, fun p hp => h.few p (by simp [hp]), ?_⟩
  have hp : (pgs (q :: t) ++ us).Perm (pgs t ++ (us ++ [q.1])) := by
    show (q.1 :: (pgs t ++ us)).Perm _
    rw [← List.append_assoc]
    exact (List.perm_append_comm (l₁ := [q.1]) (l₂ := pgs t ++ us))
  exact (onc_perm hp).1 h.onc
theorem ins_perm {u e : Int} : ∀ {l : Fs}, u ∉ pgs l → (pgs (ins u e l)).Perm (u :: pgs l)
  | [], _ => List.Perm.refl _
  | p :: l, h => by
    have h1 : u ≠ p.1 ∧ u ∉ pgs l := by simpa [pgs] using h
    simp only [ins]
    split
    · exact ((ins_perm h1.2).cons p.1).trans (List.Perm.swap _ _ _)
    · split
      · rename_i h2; exact absurd h2.symm h1.1
      · exact List.Perm.refl _
theorem Mv.put {N : Nat} {lf : Fs} {u : Int} {us : List Int} {e : Int} (h : Mv N lf (u :: us)) (hN : N ≤ 1000) (h0 : 0 ≤ e) (h4 : e ≤ 4) : Mv N (ins u e lf) us := by
  have hr := h.range u (by simp)
  have hu : u ∉ pgs lf := fun hm => (List.nodup_append.1 h.onc.1).2.2 u hm u (by simp) rfl
  refine ⟨gd_ins h.gd ⟨hr.1, show u ≤ 4294967295 by omega, h0, show e ≤ 4294967295 by omega⟩, fun p hp => ?_, ?_⟩
  · rcases ins_mem hp with rfl | hp
    · show e ≤ 5; omega
    · exact h.few p hp
  · have hp : (pgs lf ++ u :: us).Perm (pgs (ins u e lf) ++ us) := List.perm_middle.trans ((ins_perm (e := e) hu).symm.append_right us)
    exact (onc_perm hp).1 h.onc
theorem Mv.start (N : Nat) : Mv N [] (rng N) := ⟨⟨by simp, List.Pairwise.nil⟩, by simp, nodup_rng N, fun x hx => mem_rng.1 hx, len_rng N⟩
theorem rng_succ (k : Nat) : rng (k + 1) = rng k ++ [2 + (k : Int)] := by simp [rng, List.range_succ]
theorem many_n (N : Nat) : many (2 + (N : Int)) = N := by unfold many; omega
theorem many_n1 (N : Nat) : many (2 + (N : Int) + 1) = N + 1 := by unfold many; omega
theorem Mv.yes {N : Nat} {lf : Fs} {us : List Int} (h : Mv N lf us) : Onc (pgs lf ++ us) (many (2 + (N : Int))) := by rw [many_n]; exact h.onc
theorem Mv.no {N : Nat} {lf : Fs} {us : List Int} (h : Mv N lf us) : ¬ Onc (pgs lf ++ us) (many (2 + (N : Int) + 1)) := by
  rw [many_n1]
  intro h'
  have := h'.2.2
  have := h.onc.2.2
  omega
theorem ownI_low {w : World} {lo lo' : Nat} {A : Option Addr} {c : Nat} {e : TypeId} {xs : List Value} (h : Own w lo' e A c xs) (hl : lo ≤ lo') : Own w lo e A c xs := by
  obtain ⟨h1, h2⟩ := h
  refine ⟨h1, ?_⟩
  rcases h2 with h2 | ⟨g, cap, cur, h3, h4, h5⟩
  · exact .inl h2
  · exact .inr ⟨g, cap, cur, h3, Nat.le_trans hl h4, h5⟩
/-- what a row of numbers grows by leaves a list of free pages -/
theorem ownF_other {w w' : World} {lo lo' c d : Nat} {A B : Option Addr} {l : Fs} {xs : List Value} (h : OwnF w lo A c l) (h2 : Own w lo' 3 B d xs) (hg : w.grownBy w' (Value.slice B xs.length d).ownBlock) : OwnF w' lo A c l := by
  refine World.ownsRow.kept h hg ?_
  rcases h.2 with ⟨e1, _⟩ | ⟨g, cap, cur, e1, _, q1, _⟩
  · rw [e1]; exact .inl rfl
  · rcases h2.2 with ⟨e2, _⟩ | ⟨g', cap', cur', e2, _, q2, _⟩
    · rw [e1, e2]; exact .inr (by simp [Value.ownBlock])
    · rw [e1, e2]
      refine .inr fun e => ?_
      simp only [Value.ownBlock, Option.some.injEq] at e
      subst e
      rw [q1] at q2
      injection q2 with q2
      injection q2 with _ q
      exact absurd q (by decide)
theorem ints_tail {w : World} {B g : Nat} {u : Int} {t : List Int} (h : Row w B (some ⟨g, 0, none⟩) (ints (u :: t))) : Row w B (some ⟨g, 1, none⟩) (ints t) := fun k v hv => by
  obtain ⟨ad, e, hb, hc⟩ := h (k + 1) v (by simpa [ints] using hv)
  injection e with e
  subst e
  refine ⟨_, rfl, hb, ?_⟩
  have e1 : (⟨g, 1, none⟩ : Addr).add k = (⟨g, 0, none⟩ : Addr).add (k + 1) := by
    unfold Addr.add
    split
    · rename_i h0; subst h0; simp
    · simp; omega
  rw [e1]
  exact hc
end Go.Proofs.Ytffbmabhlgfjkaa.FreeMovesP
