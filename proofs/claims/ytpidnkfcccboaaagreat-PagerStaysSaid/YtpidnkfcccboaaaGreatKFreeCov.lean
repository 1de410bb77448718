/- Each number once: plain facts, and what a map of counts reads as. -/
import Derived.Maps.OwnSet
import Derived.WalkKit
namespace Go.Proofs.YtpidnkfcccboaaaGreat.FreeCov
open Go.Maps

/-- the different ones -/
def dst (ks : List Int) : List Int := ks.foldl (fun acc x => if x ∈ acc then acc else acc ++ [x]) []
theorem dst_snoc (ks : List Int) (x : Int) : dst (ks ++ [x]) = if x ∈ dst ks then dst ks else dst ks ++ [x] := by unfold dst; rw [List.foldl_append]; rfl
theorem mem_dst : ∀ (n : Nat) (ks : List Int), ks.length = n → ∀ x, x ∈ dst ks ↔ x ∈ ks
 | 0, ks, h, x => by rw [List.length_eq_zero_iff.1 h]; simp [dst]
 | n + 1, ks, h, x => by
  have hne : ks ≠ [] := by intro e; subst e; cases h
  rw [← List.dropLast_concat_getLast hne, dst_snoc]
  have ih := mem_dst n ks.dropLast (by simp [h])
  split
  ·rename_i hm
   rw [ih] at hm
   rw [ih, List.mem_append, List.mem_singleton]
   exact ⟨.inl, fun h => h.elim id fun e => by rw [e]; exact hm⟩
  ·rw [List.mem_append, List.mem_append, ih]
theorem nodup_dst : ∀ (n : Nat) (ks : List Int), ks.length = n → (dst ks).Nodup
 | 0, ks, h => by rw [List.length_eq_zero_iff.1 h]; simp [dst]
 | n + 1, ks, h => by
  have hne : ks ≠ [] := by intro e; subst e; cases h
  rw [← List.dropLast_concat_getLast hne, dst_snoc]
  have ih := nodup_dst n ks.dropLast (by simp [h])
  split
  ·exact ih
  ·rename_i hm
   exact List.nodup_append.2 ⟨ih, by simp, fun a ha b hb e => by
    rw [List.mem_singleton] at hb
    rw [e, hb] at ha
    exact hm ha⟩
theorem dst_len (ks : List Int) : (dst ks).length ≤ ks.length := (nodup_dst _ ks rfl).length_le_of_subset fun x hx => (mem_dst _ ks rfl x).1 hx
/-- 2, 3, .. -/
def rng (n : Nat) : List Int := (List.range n).map fun i : Nat => 2 + (i : Int)
theorem mem_rng {n : Nat} {x : Int} : x ∈ rng n ↔ 2 ≤ x ∧ x < 2 + (n : Int) := by
 simp only [rng, List.mem_map, List.mem_range]
 constructor
 ·rintro ⟨i, hi, rfl⟩; omega
 ·rintro ⟨h1, h2⟩; exact ⟨(x - 2).toNat, by omega, by omega⟩
theorem nodup_rng (n : Nat) : (rng n).Nodup := List.pairwise_map.2 ((List.nodup_range (n := n)).imp fun h e => h (by omega))
theorem len_rng (n : Nat) : (rng n).length = n := by simp [rng]
theorem full {xs ys : List Int} (h1 : xs.Nodup) (h2 : xs ⊆ ys) (h3 : ys.length ≤ xs.length) : ys ⊆ xs := fun y hy => by
 apply Decidable.byContradiction
 intro hn
 have : (y :: xs).Nodup := List.nodup_cons.2 ⟨hn, h1⟩
 have := this.length_le_of_subset (l₂ := ys) fun z hz => by
  rcases List.mem_cons.1 hz with rfl | hz
  ·exact hy
  ·exact h2 hz
 simp at this
 omega
/-- each of n numbers from 2 on, once, and no other -/
def Onc (ks : List Int) (n : Nat) : Prop := ks.Nodup ∧ (∀ x ∈ ks, 2 ≤ x ∧ x < 2 + (n : Int)) ∧ ks.length = n
theorem onc_iff (ks : List Int) (n : Nat) : Onc ks n ↔ (dst ks).length = n ∧ ∀ i < n, ks.count (2 + (i : Int)) = 1 := by
 constructor
 ·rintro ⟨h1, h2, h3⟩
  have hs : ks ⊆ rng n := fun x hx => mem_rng.2 (h2 x hx)
  have hr : rng n ⊆ ks := full h1 hs (by rw [len_rng, h3]; exact Nat.le_refl _)
  refine ⟨?_, fun i hi => ?_⟩
  ·have a := dst_len ks
   have b := h1.length_le_of_subset (l₂ := dst ks) fun x hx => (mem_dst _ ks rfl x).2 hx
   omega
  ·rw [h1.count, if_pos (hr (mem_rng.2 (by omega)))]
 ·rintro ⟨h1, h2⟩
  have hr : rng n ⊆ dst ks := fun x hx => by
   obtain ⟨a, b⟩ := mem_rng.1 hx
   have := h2 (x - 2).toNat (by omega)
   rw [show (2 : Int) + ((x - 2).toNat : Int) = x by omega] at this
   exact (mem_dst _ ks rfl x).2 (List.count_pos_iff.1 (by omega))
  have hs : dst ks ⊆ rng n := full (nodup_rng n) hr (by rw [len_rng, h1]; exact Nat.le_refl _)
  have hin : ∀ x ∈ ks, 2 ≤ x ∧ x < 2 + (n : Int) := fun x hx => mem_rng.1 (hs ((mem_dst _ ks rfl x).2 hx))
  have hnd : ks.Nodup := List.nodup_iff_count.2 fun x => by
   by_cases hx : x ∈ ks
   ·obtain ⟨a, b⟩ := hin x hx
    have := h2 (x - 2).toNat (by omega)
    rw [show (2 : Int) + ((x - 2).toNat : Int) = x by omega] at this
    omega
   ·rw [List.count_eq_zero.2 hx]; omega
  refine ⟨hnd, hin, ?_⟩
  have a := dst_len ks
  have b := hnd.length_le_of_subset (l₂ := dst ks) fun x hx => (mem_dst _ ks rfl x).2 hx
  omega
/-- how many pages there are beside the supers -/
def many (pages : Int) : Nat := (pages - 2).toNat
theorem onc_range {ks : List Int} {pages : Int} : Onc ks (many pages) ↔ ks.Nodup ∧ (∀ x ∈ ks, 2 ≤ x ∧ x < pages) ∧ ks.length = many pages := by
 unfold Onc many
 constructor
 ·rintro ⟨h1, h2, h3⟩; exact ⟨h1, fun x hx => by have := h2 x hx; omega, h3⟩
 ·rintro ⟨h1, h2, h3⟩; exact ⟨h1, fun x hx => by have := h2 x hx; omega, h3⟩
theorem onc_perm {ks js : List Int} {n : Nat} (h : ks.Perm js) : Onc ks n ↔ Onc js n := by
 unfold Onc
 rw [h.nodup_iff, h.length_eq]
 constructor
 ·rintro ⟨h1, h2, h3⟩; exact ⟨h1, fun x hx => h2 x (h.mem_iff.2 hx), h3⟩
 ·rintro ⟨h1, h2, h3⟩; exact ⟨h1, fun x hx => h2 x (h.mem_iff.1 hx), h3⟩
/-! the map -/
abbrev D1 := DataW Unit
def kl (x : Int) : Lit := .int .i64 x
def vl (c : Nat) : D1 := .lit (.int .i64 (c : Int))
/-- a map that counts -/
def Cnt (ks : List Int) (D : D1) : Prop := (∀ x, D.atKey (kl x) (vl 0) = vl (ks.count x)) ∧ (∀ x, Maps.has D (kl x) = decide (x ∈ ks)) ∧ Maps.size D = (dst ks).length ∧ Tidy D
theorem cnt_nil : Cnt [] (.map []) := ⟨fun _ => rfl, fun _ => rfl, rfl, tidy_empty⟩
theorem keylit (x : Int) : WideAt.IsKeyLit (kl x) := trivial
theorem kl_ne {x y : Int} (h : x ≠ y) : kl x ≠ kl y := fun e => h (by injection e)
theorem cnt_put {ks : List Int} {D : D1} {x : Int} (h : Cnt ks D) : Cnt (ks ++ [x]) (D.put (kl x) (vl (ks.count x + 1))) := by
 obtain ⟨h1, h2, h3, h4⟩ := h
 refine ⟨fun y => ?_, fun y => ?_, ?_, h4.put (keylit x) _⟩
 ·by_cases e : y = x
  ·subst e
   rw [atKey_put_same h4.isMap (keylit y), List.count_append, List.count_singleton_self]
  ·rw [atKey_put_other (kl_ne e), h1 y, List.count_append, show List.count y [x] = 0 from List.count_eq_zero.2 (by simpa using e), Nat.add_zero]
 ·by_cases e : y = x
  ·subst e
   rw [has_put_same h4.isMap (keylit y)]
   simp
  ·rw [has_put_other (kl_ne e), h2 y]
   simp [e]
 ·rw [size_put h4, h2 x, h3, dst_snoc]
  have := mem_dst _ ks rfl x
  by_cases hx : x ∈ ks
  ·simp [hx, this]
  ·simp [hx, this]
end Go.Proofs.YtpidnkfcccboaaaGreat.FreeCov
