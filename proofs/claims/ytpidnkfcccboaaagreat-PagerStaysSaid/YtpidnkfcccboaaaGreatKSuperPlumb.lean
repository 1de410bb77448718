/- PageAwake, SuperPlain, SuperRefCheck, SuperPlumb. -/
import Derived.Test.YtpidnkfcccboaaaGreatKPageBytes
import Derived.Test.YtpidnkfcccboaaaGreatKPageGet
import Derived.Test.YtpidnkfcccboaaaGreatKPageRef
import Derived.Test.YtpidnkfcccboaaaGreatKPlumb
import Derived.Deep.Fields
import Derived.Deep.Slices
namespace Go.Proofs.YtpidnkfcccboaaaGreat.PageAwake
open Go.RowKit Base PagePlain PageSmall PageBytes PageLay PagePut PageCut PageTold PageTold2 PageIs PageGet PageSame PageRef SumMem SumFill SumOf SumPlain
open PageSame2

/-- what each law comes to -/
def Law (w : World) (e : Ending) (w' : World) : Prop := e = .returned (.bool true) ∧ Below w.heap.size w w'
def P0 : Pg := ⟨1, 2, 3, 0, [⟨#[97, 98]⟩, ⟨#[]⟩]⟩
theorem gotE_page (p : Pg) (h : err p = 0) : gotE (page p) = .inr p := by
 obtain ⟨hr, hg⟩ := (err_zero p).1 h
 unfold gotE
 have h1 : (page p).take 252 = body p := by unfold page; rw [← body_len p hr, List.take_left]
 rw [if_pos (page_len p hr), h1, rd4_page p hr, if_pos rfl]
 have : got (page p) = some p := got_body p hr hg _
 rw [this]
theorem five {w : World} {g : Nat} {t : TypeId} {a b c d e : Value} (h : At w g t #[a, b, c, d, e]) : w.cell? ⟨g, 0, none⟩ = some a ∧ w.cell? ⟨g, 1, none⟩ = some b ∧ w.cell? ⟨g, 2, none⟩ = some c ∧ w.cell? ⟨g, 3, none⟩ = some d ∧ w.cell? ⟨g, 4, none⟩ = some e :=
 ⟨by rw [h.cell]; rfl, by rw [h.cell]; rfl, by rw [h.cell]; rfl, by rw [h.cell]; rfl, by rw [h.cell]; rfl⟩
theorem at_rowX {w : World} {g b : Nat} {t : TypeId} {vs : List Value} (h : At w b t vs.toArray) (hg : b ≠ g) : RowX w g (some ⟨b, 0, none⟩) vs := fun k v hv => by
 refine ⟨_, rfl, h.lt, hg, ?_⟩
 rw [add_zero_block, h.cell]
 simpa using hv
theorem at_only {w w' : World} {g b : Nat} {t : TypeId} {cs : Array Value} (h : At w b t cs) (ho : Only g w w') (hg : b ≠ g) : At w' b t cs := (ho.block b h.lt (fun e => hg (Option.some.inj e))).trans h
theorem at_below {w w' : World} {b : Nat} {t : TypeId} {cs : Array Value} (h : At w b t cs) (hb : Below w.heap.size w w') : At w' b t cs := (hb.block b h.lt).trans h
end Go.Proofs.YtpidnkfcccboaaaGreat.PageAwake
namespace Go.Proofs.YtpidnkfcccboaaaGreat.SuperPlain
open SumPlain PagePlain SumTurn PageGet PageAwake PageSmall PagePut PageLay PageBytes

structure Sp where
 ep : Int
 root : Int
 free : Int
 pages : Int
def Ok (x : Sp) : Prop := 0 ≤ x.ep ∧ x.ep ≤ 4294967295 ∧ 2 ≤ x.pages ∧ x.pages ≤ 4096 ∧ (x.root = 0 ∨ 2 ≤ x.root ∧ x.root < x.pages) ∧ (x.free = 0 ∨ 2 ≤ x.free ∧ x.free < x.pages)
instance (x : Sp) : Decidable (Ok x) := by unfold Ok; infer_instance
def cell (x : Sp) : ByteArray := ⟨(be4 x.root.toNat ++ be4 x.free.toNat ++ be4 x.pages.toNat).toArray⟩
def pg (x : Sp) : Pg := ⟨9, x.ep % 2, x.ep, 0, [cell x]⟩
theorem cell_size (x : Sp) : (cell x).size = 12 := rfl
theorem pg_room (x : Sp) : room (pg x).cells = 14 := by show room [cell x] = 14; rw [room_one, cell_size]
theorem pg_ok {x : Sp} (h : Ok x) : PgOk (pg x) := by
 obtain ⟨h1, h2, _⟩ := h
 show 1 ≤ (9 : Int) ∧ (9 : Int) ≤ 255 ∧ 0 ≤ x.ep % 2 ∧ x.ep % 2 ≤ 4294967295 ∧ 0 ≤ x.ep ∧ x.ep ≤ 4294967295 ∧ 0 ≤ (0 : Int) ∧ (0 : Int) ≤ 4294967295
 omega
theorem pg_err {x : Sp} (h : Ok x) : err (pg x) = 0 := (err_zero _).2 ⟨by rw [pg_room]; omega, pg_ok h⟩
/-- its bytes -/
def sbytes (x : Sp) : List UInt8 := page (pg x)
theorem sbytes_len (x : Sp) : (sbytes x).length = 256 := page_len _ (by rw [pg_room]; omega)
/-- what a page tells -/
def rdS (p : Pg) : Option Sp := match p.cells with
 | [c] => some ⟨p.epoch, rd4 (bl c) 0, rd4 (bl c) 4, rd4 (bl c) 8⟩
 | _ => none
theorem rdS_pg {x : Sp} (h : Ok x) : rdS (pg x) = some x := by
 obtain ⟨_, _, a3, a4, a5, a6⟩ := h
 have hb : bl (cell x) = be4 x.root.toNat ++ be4 x.free.toNat ++ be4 x.pages.toNat := by simp [bl, cell]
 show some (⟨x.ep, rd4 (bl (cell x)) 0, rd4 (bl (cell x)) 4, rd4 (bl (cell x)) 8⟩ : Sp) = some x
 rw [hb, rd4_be4 _ [] (be4 x.free.toNat ++ be4 x.pages.toNat) x.root.toNat 0 (by omega) (by simp) rfl, rd4_be4 _ (be4 x.root.toNat) (be4 x.pages.toNat) x.free.toNat 4 (by omega) rfl rfl,
  rd4_be4 _ (be4 x.root.toNat ++ be4 x.free.toNat) [] x.pages.toNat 8 (by omega) (by simp) rfl]
 obtain ⟨xe, xr, xf, xp⟩ := x
 simp only at *
 rw [Option.some.injEq, Sp.mk.injEq]
 refine ⟨rfl, ?_, ?_, ?_⟩ <;> omega
/-- p is the page of super x, in that slot -/
def Of (x : Sp) (p : Pg) (slot : Int) : Prop := Ok x ∧ p.kind = 9 ∧ p.no = x.ep % 2 ∧ p.epoch = x.ep ∧ p.link = 0 ∧ p.cells = [cell x] ∧ x.ep % 2 = slot
instance (x : Sp) (p : Pg) (slot : Int) : Decidable (Of x p slot) := by unfold Of; infer_instance
theorem of_iff {x : Sp} {p : Pg} {slot : Int} : Of x p slot ↔ Ok x ∧ p = pg x ∧ x.ep % 2 = slot := by
 constructor
 ·rintro ⟨h1, h2, h3, h4, h5, h6, h7⟩
  exact ⟨h1, pg_ext h2 h3 h4 h5 h6, h7⟩
 ·rintro ⟨h1, rfl, h3⟩
  exact ⟨h1, rfl, rfl, rfl, rfl, rfl, h3⟩
/-- what a slot's bytes tell: an error, or a super -/
def getS (slot : Int) (l : List UInt8) : Int ⊕ Sp := match gotE l with
 | .inl e => .inl e
 | .inr p => match rdS p with
  | some x => if Of x p slot then .inr x else .inl 70
  | none => .inl 70
theorem getS_bytes {x : Sp} (h : Ok x) (slot : Int) : getS slot (sbytes x) = if x.ep % 2 = slot then .inr x else .inl 70 := by
 unfold getS sbytes
 rw [gotE_page _ (pg_err h)]
 simp only [rdS_pg h]
 by_cases q : x.ep % 2 = slot
 ·rw [if_pos q, if_pos (of_iff.2 ⟨h, rfl, q⟩)]
 ·rw [if_neg q, if_neg (fun z => q (of_iff.1 z).2.2)]
theorem gotE_some {l : List UInt8} {p : Pg} (h : gotE l = .inr p) : got l = some p := by
 unfold gotE at h
 split at h
 ·split at h
  ·split at h
   ·cases h
   ·rename_i q hq
    injection h with h
    rw [hq, h]
  ·cases h
 ·cases h
theorem getS_out {slot : Int} {l : List UInt8} {x : Sp} (h : getS slot l = .inr x) : Ok x ∧ gotE l = .inr (pg x) ∧ x.ep % 2 = slot := by
 unfold getS at h
 split at h
 ·cases h
 ·rename_i p hp
  split at h
  ·rename_i y hy
   split at h
   ·rename_i hc
    obtain ⟨c1, c2, c3⟩ := of_iff.1 hc
    injection h with h
    subst h
    exact ⟨c1, by rw [hp, c2], c3⟩
   ·cases h
  ·cases h
theorem getS_err {slot : Int} {l : List UInt8} {e : Int} (h : gotE l = .inl e) : getS slot l = .inl e := by unfold getS; rw [h]
/-- the newer one -/
def pickS (a b : List UInt8) : Int ⊕ Sp := match getS 0 a, getS 1 b with
 | .inr x, .inr y => .inr (if y.ep < x.ep then x else y)
 | .inr x, .inl _ => .inr x
 | .inl _, .inr y => .inr y
 | .inl _, .inl _ => .inl 70
/-! a byte is turned -/
def flip (l : List UInt8) (p : Nat) : List UInt8 := l.set p (l[p]?.getD 0 ^^^ 1)
/-- of two -/
theorem pick_two {x y : Sp} (hx : Ok x) (hy : Ok y) (h0 : x.ep % 2 = 0) (h1 : y.ep % 2 = 1) : pickS (sbytes x) (sbytes y) = .inr (if y.ep < x.ep then x else y) := by
 unfold pickS
 rw [getS_bytes hx, getS_bytes hy, if_pos h0, if_pos h1]
/-- whatever lies in slot 0: with a super in slot 1 there is one -/
theorem pick_any {l : List UInt8} {y : Sp} (hy : Ok y) (h1 : y.ep % 2 = 1) : ∃ z, pickS l (sbytes y) = .inr z := by
 unfold pickS
 rw [getS_bytes hy, if_pos h1]
 cases getS 0 l with
 | inl e => exact ⟨y, rfl⟩
 | inr x => exact ⟨_, rfl⟩
/-- what no super's slot holds -/
theorem noughts (slot : Int) : ∃ e, getS slot (List.replicate 256 0) = .inl e := by
 cases h : getS slot (List.replicate 256 0) with
 | inl e => exact ⟨e, rfl⟩
 | inr x =>
  exfalso
  obtain ⟨h1, h2, _⟩ := getS_out h
  have h3 := (got_out (gotE_some h2)).2.2
  have h4 : (body (pg x))[0]? = some 9 := by unfold body prt hd; rfl
  rw [h3, List.getElem?_take_of_lt (by omega), List.getElem?_replicate_of_lt (by omega)] at h4
  injection h4 with h4
  exact absurd h4 (by decide)
def next (x : Sp) (r f p : Int) : Sp := ⟨x.ep + 1, r, f, p⟩
end Go.Proofs.YtpidnkfcccboaaaGreat.SuperPlain
namespace Go.Proofs.YtpidnkfcccboaaaGreat.SuperRefCheck
open Go.RowKit Base SuperPlain

abbrev sv (x : Sp) : Value := .agg #[.int .i64 x.ep, .int .i64 x.root, .int .i64 x.free, .int .i64 x.pages]
theorem al (w : World) (o : Obj) : Below w.heap.size w (w.alloc o) := (Below.refl _ _).alloc (Nat.le_refl _) _
end Go.Proofs.YtpidnkfcccboaaaGreat.SuperRefCheck
namespace Go.Proofs.YtpidnkfcccboaaaGreat.SuperPlumb
open Go.ChangeShapes Go.WideShapes Go.RowKit Base Plumb SuperPlain SuperRefCheck

/-- numbers that an int holds -/
def In (z : Int) : Prop := -9223372036854775808 ≤ z ∧ z ≤ 9223372036854775807
def InS (x : Sp) : Prop := In x.ep ∧ In x.root ∧ In x.free ∧ In x.pages
/-- a list of supers, as cells -/
def fls (l : List Sp) : List Value := l.flatMap fun x => [.int .i64 x.ep, .int .i64 x.root, .int .i64 x.free, .int .i64 x.pages]
theorem list_of {α : Type} {p : Nat → α → Prop} : ∀ n : Nat, (∀ i, i < n → ∃ x, p i x) → ∃ l : List α, l.length = n ∧ ∀ i x, l[i]? = some x → p i x
 | 0, _ => ⟨[], rfl, fun i x h => by simp at h⟩
 | n + 1, h => by
  obtain ⟨l, hl, hp⟩ := list_of n fun i hi => h i (by omega)
  obtain ⟨x, hx⟩ := h n (by omega)
  refine ⟨l ++ [x], by simp [hl], fun i y hy => ?_⟩
  rcases Nat.lt_or_ge i l.length with q | q
  ·rw [List.getElem?_append_left q] at hy; exact hp i y hy
  ·rw [List.getElem?_append_right q] at hy
   rcases Nat.eq_zero_or_pos (i - l.length) with r | r
   ·rw [r] at hy; simp at hy; subst hy; rw [show i = n by omega]; exact hx
   ·rw [List.getElem?_eq_none (by simp; omega)] at hy; cases hy
section
variable {H : Type} {enc : TypeId × Value → H} {W : World} {base : Nat} {sp : Nat → Bool} {held : Bool}
set_option maxRecDepth 100000 in
end
end Go.Proofs.YtpidnkfcccboaaaGreat.SuperPlumb
