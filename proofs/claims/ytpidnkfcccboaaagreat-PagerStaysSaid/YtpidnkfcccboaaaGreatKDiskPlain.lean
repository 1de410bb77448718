/- A disk as plain data: pages that last, loose writes, a fuse; what each call makes of it. No memory, no program. -/
import Derived.Laws.CopyOwn
import Derived.WalkKit
namespace Go.Proofs.YtpidnkfcccboaaaGreat.DiskPlain

abbrev Pg := List UInt8
structure DS where
 most : Int
 last : List Pg
 loose : List (Nat × Pg)
 fused : Bool
 left : Int

def zeros : Pg := List.replicate 256 0
theorem zeros_len : zeros.length = 256 := List.length_replicate
def DS.dead (S : DS) : Bool := S.fused && S.left == 0
structure DS.Ok (S : DS) : Prop where
 m1 : 1 ≤ S.most
 m2 : S.most ≤ 4096
 len : (S.last.length : Int) ≤ S.most
 pages : ∀ b ∈ S.last, b.length = 256
 wpage : ∀ x ∈ S.loose, x.1 < S.last.length
 wlen : ∀ x ∈ S.loose, x.2.length = 256
 l1 : 0 ≤ S.left
 l2 : S.left ≤ 9223372036854775807

theorem DS.Ok.len4096 {S : DS} (h : S.Ok) : S.last.length ≤ 4096 := by have := h.len; have := h.m2; omega
def DS.burn (S : DS) : DS := if S.fused then { S with left := S.left - 1 } else S
def DS.forget (S : DS) : DS := { S with loose := [] }
def new (most : Int) : DS := ⟨most, [], [], false, 0⟩
def DS.grown (S : DS) (n : Int) : DS := { S with last := S.last ++ List.replicate (n.toNat - S.last.length) zeros }
def DS.grow (S : DS) (n : Int) : DS := if n > S.most then S else if S.dead then S else S.grown n
def DS.growE (S : DS) (n : Int) : Int := if n > S.most then 32 else if S.dead then 33 else 0
def DS.has (S : DS) (p : Int) : Bool := decide (0 ≤ p ∧ p < S.last.length)
def DS.written (S : DS) (p : Nat) (b : Pg) : DS := { S with loose := S.loose ++ [(p, b)] }
def DS.write (S : DS) (p : Int) (b : Pg) : DS := if S.has p = false then S else if b.length ≠ 256 then S else if S.dead then S else (S.written p.toNat b).burn
def DS.writeE (S : DS) (p : Int) (b : Pg) : Int := if S.has p = false then 30 else if b.length ≠ 256 then 31 else if S.dead then 33 else 0
/-- what the loose writes leave of a page -/
def over (l : List (Nat × Pg)) (p : Nat) (s : Pg) : Pg := l.foldl (fun s x => if x.1 = p then x.2 else s) s
def DS.rd (S : DS) (p : Nat) : Pg := over S.loose p (S.last.getD p [])
/-- all that is loose lasts -/
def flush (last : List Pg) (l : List (Nat × Pg)) : List Pg := l.foldl (fun L x => L.set x.1 x.2) last
def DS.synced (S : DS) : DS := { S with last := flush S.last S.loose, loose := [] }
def DS.sync (S : DS) : DS := if S.dead then S else S.synced.burn
def DS.fuse (S : DS) (n : Int) : DS := if S.dead then S else { S with fused := true, left := max n 0 }
/-- whether the bit is set -/
def bit (z : Nat) (k : Nat) : Bool := z / 2 ^ k % 2 == 1
/-- a page of which the sectors below k are another one's where the bit is set -/
def tornTo (k : Nat) (s b : Pg) (z : Nat) : Pg := (List.range 256).map fun i => if i < 64 * k ∧ bit z (i / 64) = true then b.getD i 0 else s.getD i 0
def torn (s b : Pg) (z : Nat) : Pg := tornTo 4 s b z
theorem tornTo_len (k : Nat) (s b : Pg) (z : Nat) : (tornTo k s b z).length = 256 := by simp [tornTo]
theorem torn_len (s b : Pg) (z : Nat) : (torn s b z).length = 256 := tornTo_len 4 s b z
/-- one that survives -/
def keep1 (loose : List (Nat × Pg)) (last : List Pg) (k : Int × Nat) : List Pg :=
 if 0 ≤ k.1 ∧ k.1 < loose.length then last.set (loose.getD k.1.toNat (0, [])).1 (torn (last.getD (loose.getD k.1.toNat (0, [])).1 []) (loose.getD k.1.toNat (0, [])).2 k.2) else last
def DS.crash (S : DS) (kept : List (Int × Nat)) : DS := { S with last := kept.foldl (keep1 S.loose) S.last, loose := [], fused := false, left := 0 }
def DS.spoilt (S : DS) (p at_ : Nat) (b : Pg) : DS := { S with last := S.last.set p (splice (S.last.getD p []) at_ b), loose := S.loose.map fun x => if x.1 = p then (x.1, splice x.2 at_ b) else x }
def DS.spoil (S : DS) (p at_ : Int) (b : Pg) : DS := if S.has p = false then S else if at_ < 0 ∨ at_ > 256 - b.length then S else S.spoilt p.toNat at_.toNat b
def DS.spoilE (S : DS) (p at_ : Int) (b : Pg) : Int := if S.has p = false then 30 else if at_ < 0 ∨ at_ > 256 - b.length then 31 else 0

/-- an act: kind, n, page, at, bytes, kept -/
structure Ac where
 kind : Int
 n : Int
 page : Int
 at_ : Int
 s : ByteArray
 kept : List (Int × Nat)
def Ac.b (x : Ac) : Pg := x.s.data.toList
def act (S : DS) (x : Ac) : DS :=
 if x.kind = 0 then S.grow x.n else if x.kind = 1 then S.write x.page x.b else if x.kind = 2 then S.sync else if x.kind = 3 then S.crash x.kept else if x.kind = 4 then S.spoil x.page x.at_ x.b else if x.kind = 6 then S.fuse x.n else S
def actE (S : DS) (x : Ac) : Int :=
 if x.kind = 0 then S.growE x.n else if x.kind = 1 then S.writeE x.page x.b else if x.kind = 4 then S.spoilE x.page x.at_ x.b else 0
def few (x : Ac) : Bool := decide (x.s.size ≤ 300) && decide (x.kept.length ≤ 20) && decide (x.n ≤ 50)

/-! it stays a disk -/
theorem dead_false {S : DS} (h : S.Ok) (hd : S.dead = false) : S.fused = true → 1 ≤ S.left := by
 intro hf
 have := h.l1
 simp only [DS.dead, hf, Bool.true_and, beq_eq_false_iff_ne, ne_eq] at hd
 omega
theorem DS.Ok.burn {S : DS} (h : S.Ok) (hd : S.fused = true → 1 ≤ S.left) : S.burn.Ok := by
 unfold DS.burn
 split
 ·rename_i hf
  have := hd hf
  have := h.l2
  exact ⟨h.m1, h.m2, h.len, h.pages, h.wpage, h.wlen, by show 0 ≤ S.left - 1; omega, by show S.left - 1 ≤ _; omega⟩
 ·exact h
theorem DS.Ok.forget {S : DS} (h : S.Ok) : S.forget.Ok := ⟨h.m1, h.m2, h.len, h.pages, by simp [DS.forget], by simp [DS.forget], h.l1, h.l2⟩
theorem new_ok {m : Int} (h1 : 1 ≤ m) (h2 : m ≤ 4096) : (new m).Ok := ⟨h1, h2, by simp [new]; omega, by simp [new], by simp [new], by simp [new], by simp [new], by simp [new]⟩
theorem DS.Ok.grown {S : DS} (h : S.Ok) {n : Int} (hn : n ≤ S.most) : (S.grown n).Ok := by
 refine ⟨h.m1, h.m2, ?_, ?_, ?_, h.wlen, h.l1, h.l2⟩
 ·have := h.len; have := h.m1; simp [DS.grown]; omega
 ·intro b hb
  simp only [DS.grown, List.mem_append, List.mem_replicate] at hb
  rcases hb with hb | ⟨_, rfl⟩
  ·exact h.pages b hb
  ·exact zeros_len
 ·intro x hx; have := h.wpage x hx; simp [DS.grown]; omega
theorem DS.Ok.grow {S : DS} (h : S.Ok) (n : Int) : (S.grow n).Ok := by
 unfold DS.grow
 split
 ·exact h
 ·split
  ·exact h
  ·exact h.grown (by omega)
theorem has_iff {S : DS} {p : Int} : S.has p = true ↔ 0 ≤ p ∧ p < S.last.length := by simp [DS.has]
theorem DS.Ok.written {S : DS} (h : S.Ok) {p : Nat} (hp : p < S.last.length) {b : Pg} (hb : b.length = 256) : (S.written p b).Ok := by
 refine ⟨h.m1, h.m2, h.len, h.pages, ?_, ?_, h.l1, h.l2⟩
 ·intro x hx
  simp only [DS.written, List.mem_append, List.mem_singleton] at hx
  rcases hx with hx | rfl
  ·exact h.wpage x hx
  ·exact hp
 ·intro x hx
  simp only [DS.written, List.mem_append, List.mem_singleton] at hx
  rcases hx with hx | rfl
  ·exact h.wlen x hx
  ·exact hb
theorem DS.Ok.write {S : DS} (h : S.Ok) (p : Int) (b : Pg) : (S.write p b).Ok := by
 unfold DS.write
 split
 ·exact h
 ·rename_i hp
  split
  ·exact h
  ·rename_i hb
   split
   ·exact h
   ·rename_i hd
    have hp' := has_iff.1 (by simpa using hp)
    exact DS.Ok.burn (h.written (by omega) (by simpa using hb)) (dead_false (S := S) h (by simpa using hd))
theorem flush_len (l : List (Nat × Pg)) : ∀ L : List Pg, (flush L l).length = L.length := by
 induction l with
 | nil => intro L; rfl
 | cons x l ih => intro L; simp only [flush, List.foldl_cons] at ih ⊢; rw [ih]; simp
theorem flush_pages (l : List (Nat × Pg)) (hl : ∀ x ∈ l, x.2.length = 256) : ∀ L : List Pg, (∀ b ∈ L, b.length = 256) → ∀ b ∈ flush L l, b.length = 256 := by
 induction l with
 | nil => intro L h; exact h
 | cons x l ih =>
  intro L h
  simp only [flush, List.foldl_cons] at ih ⊢
  refine ih (fun y hy => hl y (by simp [hy])) _ fun b hb => ?_
  rcases List.mem_or_eq_of_mem_set hb with hb | rfl
  ·exact h b hb
  ·exact hl x (by simp)
theorem DS.Ok.synced {S : DS} (h : S.Ok) : S.synced.Ok := by
 refine ⟨h.m1, h.m2, by simpa [DS.synced, flush_len] using h.len, flush_pages _ h.wlen _ h.pages, by simp [DS.synced], by simp [DS.synced], h.l1, h.l2⟩
theorem DS.Ok.sync {S : DS} (h : S.Ok) : S.sync.Ok := by
 unfold DS.sync
 split
 ·exact h
 ·rename_i hd; exact DS.Ok.burn h.synced (dead_false (S := S) h (by simpa using hd))
theorem DS.Ok.fuse {S : DS} (h : S.Ok) {n : Int} (hn : n ≤ 9223372036854775807) : (S.fuse n).Ok := by
 unfold DS.fuse
 split
 ·exact h
 ·exact ⟨h.m1, h.m2, h.len, h.pages, h.wpage, h.wlen, by show 0 ≤ max n 0; omega, by show max n 0 ≤ _; omega⟩
theorem keep1_len (loose : List (Nat × Pg)) (L : List Pg) (k : Int × Nat) : (keep1 loose L k).length = L.length := by unfold keep1; split <;> simp
theorem keep1_pages (loose : List (Nat × Pg)) (L : List Pg) (k : Int × Nat) (h : ∀ b ∈ L, b.length = 256) : ∀ b ∈ keep1 loose L k, b.length = 256 := by
 unfold keep1
 split
 ·intro b hb
  rcases List.mem_or_eq_of_mem_set hb with hb | rfl
  ·exact h b hb
  ·exact torn_len _ _ _
 ·exact h
theorem keeps_len (loose : List (Nat × Pg)) (ks : List (Int × Nat)) : ∀ L : List Pg, (ks.foldl (keep1 loose) L).length = L.length := by
 induction ks with
 | nil => intro L; rfl
 | cons k ks ih => intro L; rw [List.foldl_cons, ih, keep1_len]
theorem keeps_pages (loose : List (Nat × Pg)) (ks : List (Int × Nat)) : ∀ L : List Pg, (∀ b ∈ L, b.length = 256) → ∀ b ∈ ks.foldl (keep1 loose) L, b.length = 256 := by
 induction ks with
 | nil => intro L h; exact h
 | cons k ks ih => intro L h; rw [List.foldl_cons]; exact ih _ (keep1_pages loose L k h)
theorem DS.Ok.crash {S : DS} (h : S.Ok) (ks : List (Int × Nat)) : (S.crash ks).Ok := by
 refine ⟨h.m1, h.m2, by simpa [DS.crash, keeps_len] using h.len, keeps_pages _ _ _ h.pages, by simp [DS.crash], by simp [DS.crash], by simp [DS.crash], by simp [DS.crash]⟩
theorem getD_len {L : List Pg} (h : ∀ b ∈ L, b.length = 256) {p : Nat} (hp : p < L.length) : (L.getD p []).length = 256 := by
 rw [List.getD_eq_getElem?_getD, List.getElem?_eq_getElem hp]
 exact h _ (List.getElem_mem hp)
theorem DS.Ok.spoilt {S : DS} (h : S.Ok) {p a : Nat} (hp : p < S.last.length) {b : Pg} (hb : a + b.length ≤ 256) : (S.spoilt p a b).Ok := by
 refine ⟨h.m1, h.m2, by simpa [DS.spoilt] using h.len, ?_, ?_, ?_, h.l1, h.l2⟩
 ·intro x hx
  rcases List.mem_or_eq_of_mem_set hx with hx | rfl
  ·exact h.pages x hx
  ·have e := getD_len h.pages hp
   rw [length_splice _ _ _ (by omega)]; exact e
 ·intro x hx
  simp only [DS.spoilt, List.mem_map] at hx
  obtain ⟨y, hy, rfl⟩ := hx
  have := h.wpage y hy
  simp only [DS.spoilt, List.length_set]
  split <;> exact this
 ·intro x hx
  simp only [DS.spoilt, List.mem_map] at hx
  obtain ⟨y, hy, rfl⟩ := hx
  have := h.wlen y hy
  split
  ·show (splice y.2 a b).length = 256; rw [length_splice _ _ _ (by omega)]; exact this
  ·exact this
theorem DS.Ok.spoil {S : DS} (h : S.Ok) (p a : Int) (b : Pg) : (S.spoil p a b).Ok := by
 unfold DS.spoil
 split
 ·exact h
 ·rename_i hp
  split
  ·exact h
  ·have hp' := has_iff.1 (by simpa using hp)
   exact h.spoilt (by omega) (by omega)
theorem DS.Ok.act {S : DS} (h : S.Ok) (x : Ac) (hn : x.n ≤ 9223372036854775807) : (act S x).Ok := by
 unfold DiskPlain.act
 split
 ·exact h.grow _
 split
 ·exact h.write _ _
 split
 ·exact h.sync
 split
 ·exact h.crash _
 split
 ·exact h.spoil _ _ _
 split
 ·exact h.fuse hn
 ·exact h
end Go.Proofs.YtpidnkfcccboaaaGreat.DiskPlain
