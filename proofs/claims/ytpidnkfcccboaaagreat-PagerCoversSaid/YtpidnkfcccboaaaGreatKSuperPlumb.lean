/- PageAwake, SuperPlain, SuperRefCheck, SuperPlumb. -/
import Derived.Test.YtpidnkfcccboaaaGreatKPageBytes
import Derived.Test.YtpidnkfcccboaaaGreatKPageGet
import Derived.Test.YtpidnkfcccboaaaGreatKPageRef
import Derived.Test.YtpidnkfcccboaaaGreatKPlumb
import Derived.Deep.Fields
import Derived.Deep.Slices
namespace Go.Proofs.YtpidnkfcccboaaaGreat.PageAwake
open Go.RowKit Base PagePlain PageSmall PageBytes PageLay PagePut PageCut PageTold PageTold2 PageIs PageGet PageSame PageRef SumMem SumFill SumOf SumPlain
open PageSame2

/-- what each law comes to -/
def Law (w : World) (e : Ending) (w' : World) : Prop := e = .returned (.bool true) ∧ Below w.heap.size w w'
def P0 : Pg := ⟨1, 2, 3, 0, [⟨#[97, 98]⟩, ⟨#[]⟩]⟩
theorem p0_err : err P0 = 0 := by decide
theorem gotE_page (p : Pg) (h : err p = 0) : gotE (page p) = .inr p := by
 obtain ⟨hr, hg⟩ := (err_zero p).1 h
 unfold gotE
 have h1 : (page p).take 252 = body p := by unfold page; rw [← body_len p hr, List.take_left]
 rw [if_pos (page_len p hr), h1, rd4_page p hr, if_pos rfl]
 have : got (page p) = some p := got_body p hr hg _
 rw [this]
theorem row_of {w : World} {b : Nat} {t : TypeId} {l : List UInt8} (h : Arr w b t l) (o n : Nat) : Row w w.heap.size (some ((⟨b, 0, none⟩ : Addr).add o)) (bv ((l.drop o).take n)) := row_head (row_drop (Arr.row h) o) n
theorem sl_lh (ad : Addr) (n c i k : Nat) (hi : i < k) (hk : k ≤ c) (x y : Int) (hx : x = i) (hy : y = k) (w : World) : (Instr.slice 96 (.slice (some ad) n c) (some (.int .i64 x)) (some (.int .i64 y)) none).run Tryz.prog w = .ok (.slice (some (ad.add i)) (k - i) (c - i)) w := by
 subst hx hy
 rw [run_slice_lh w 96 (some ad) n c under_u8 .i64 .i64 i k (by omega) (by omega) (by omega), size_u8]
 simp only [sliced, Result.andThen, Int.toNat_natCast, Nat.mul_one]
 rw [if_neg (by omega)]
 rfl
theorem own_rowX {w : World} {B g c : Nat} {e : TypeId} {A : Option Addr} {xs : List Value} (h : Own w B e A c xs) (hg : g < B) : RowX w g A xs := fun k v hv => by
 obtain ⟨ad, e1, hb, hc⟩ := h.row k v hv
 refine ⟨ad, e1, hb, ?_, hc⟩
 have := (h.block ad.block (by rw [e1]; rfl)).1
 omega
theorem five {w : World} {g : Nat} {t : TypeId} {a b c d e : Value} (h : At w g t #[a, b, c, d, e]) : w.cell? ⟨g, 0, none⟩ = some a ∧ w.cell? ⟨g, 1, none⟩ = some b ∧ w.cell? ⟨g, 2, none⟩ = some c ∧ w.cell? ⟨g, 3, none⟩ = some d ∧ w.cell? ⟨g, 4, none⟩ = some e :=
 ⟨by rw [h.cell]; rfl, by rw [h.cell]; rfl, by rw [h.cell]; rfl, by rw [h.cell]; rfl, by rw [h.cell]; rfl⟩
theorem at_rowX {w : World} {g b : Nat} {t : TypeId} {vs : List Value} (h : At w b t vs.toArray) (hg : b ≠ g) : RowX w g (some ⟨b, 0, none⟩) vs := fun k v hv => by
 refine ⟨_, rfl, h.lt, hg, ?_⟩
 rw [add_zero_block, h.cell]
 simpa using hv
theorem at_only {w w' : World} {g b : Nat} {t : TypeId} {cs : Array Value} (h : At w b t cs) (ho : Only g w w') (hg : b ≠ g) : At w' b t cs := (ho.block b h.lt (fun e => hg (Option.some.inj e))).trans h
theorem at_below {w w' : World} {b : Nat} {t : TypeId} {cs : Array Value} (h : At w b t cs) (hb : Below w.heap.size w w') : At w' b t cs := (hb.block b h.lt).trans h
theorem p0_18 : (page P0).take 18 = [1, 2, 0, 0, 0, 2, 0, 0, 0, 3, 0, 0, 0, 0, 250, 2, 250, 0] := by decide +kernel
theorem p0_249 : ((page P0).drop 249).take 3 = [0, 97, 98] := by decide +kernel
theorem same_self (p : Pg) : same p p = true := (same_iff p p).2 rfl

end Go.Proofs.YtpidnkfcccboaaaGreat.PageAwake
namespace Go.Proofs.YtpidnkfcccboaaaGreat.SuperPlain
open SumPlain PagePlain SumTurn PageGet PageAwake PageSmall PagePut PageLay PageBytes

structure Sp where
 ep : Int
 root : Int
 free : Int
 pages : Int
def Ok (x : Sp) : Prop := 0 ≤ x.ep ∧ x.ep ≤ 4294967295 ∧ 2 ≤ x.pages ∧ x.pages ≤ 4096 ∧ (x.root = 0 ∨ 2 ≤ x.root ∧ x.root < x.pages) ∧ (x.free = 0 ∨ 2 ≤ x.free ∧ x.free < x.pages)
instance (x : Sp) : Decidable (Ok x) := by unfold Ok; infer_instance
def cell (x : Sp) : ByteArray := ⟨(be4 x.root.toNat ++ be4 x.free.toNat ++ be4 x.pages.toNat).toArray⟩
def pg (x : Sp) : Pg := ⟨9, x.ep % 2, x.ep, 0, [cell x]⟩
theorem cell_size (x : Sp) : (cell x).size = 12 := rfl
theorem pg_room (x : Sp) : room (pg x).cells = 14 := by show room [cell x] = 14; rw [room_one, cell_size]
theorem pg_ok {x : Sp} (h : Ok x) : PgOk (pg x) := by
 obtain ⟨h1, h2, _⟩ := h
 show 1 ≤ (9 : Int) ∧ (9 : Int) ≤ 255 ∧ 0 ≤ x.ep % 2 ∧ x.ep % 2 ≤ 4294967295 ∧ 0 ≤ x.ep ∧ x.ep ≤ 4294967295 ∧ 0 ≤ (0 : Int) ∧ (0 : Int) ≤ 4294967295
 omega
theorem pg_err {x : Sp} (h : Ok x) : err (pg x) = 0 := (err_zero _).2 ⟨by rw [pg_room]; omega, pg_ok h⟩
/-- its bytes -/
def sbytes (x : Sp) : List UInt8 := page (pg x)
theorem sbytes_len (x : Sp) : (sbytes x).length = 256 := page_len _ (by rw [pg_room]; omega)
theorem be4_inj {a b : Nat} (ha : a < 4294967296) (hb : b < 4294967296) (h : be4 a = be4 b) : a = b := by
 have h1 := rd4_be4 (be4 a) [] [] a 0 ha (by simp) rfl
 have h2 := rd4_be4 (be4 a) [] [] b 0 hb (by rw [h]; simp) rfl
 exact h1.symm.trans h2
theorem pg_inj {x y : Sp} (hx : Ok x) (hy : Ok y) (h : pg x = pg y) : x = y := by
 have h1 : x.ep = y.ep := congrArg Pg.epoch h
 have h2 : cell x = cell y := by
  have := congrArg Pg.cells h
  simpa [pg] using this
 have h3 : be4 x.root.toNat ++ be4 x.free.toNat ++ be4 x.pages.toNat = be4 y.root.toNat ++ be4 y.free.toNat ++ be4 y.pages.toNat := by
  have := congrArg (fun b : ByteArray => b.data.toList) h2
  simpa [cell] using this
 obtain ⟨h4, h5⟩ := List.append_inj h3 (by simp [be4])
 obtain ⟨h6, h7⟩ := List.append_inj h4 (by simp [be4])
 obtain ⟨_, _, a3, a4, a5, a6⟩ := hx
 obtain ⟨_, _, b3, b4, b5, b6⟩ := hy
 have e1 := be4_inj (by omega) (by omega) h5
 have e2 := be4_inj (by omega) (by omega) h6
 have e3 := be4_inj (by omega) (by omega) h7
 obtain ⟨xe, xr, xf, xp⟩ := x
 obtain ⟨ye, yr, yf, yp⟩ := y
 simp only at *
 rw [Sp.mk.injEq]
 refine ⟨h1, ?_, ?_, ?_⟩ <;> omega
theorem sbytes_inj {x y : Sp} (hx : Ok x) (hy : Ok y) (h : sbytes x = sbytes y) : x = y :=
 pg_inj hx hy (page_inj (by rw [pg_room]; omega) (pg_ok hx) (by rw [pg_room]; omega) (pg_ok hy) h)
/-- what a page tells -/
def rdS (p : Pg) : Option Sp := match p.cells with
 | [c] => some ⟨p.epoch, rd4 (bl c) 0, rd4 (bl c) 4, rd4 (bl c) 8⟩
 | _ => none
theorem rdS_pg {x : Sp} (h : Ok x) : rdS (pg x) = some x := by
 obtain ⟨_, _, a3, a4, a5, a6⟩ := h
 have hb : bl (cell x) = be4 x.root.toNat ++ be4 x.free.toNat ++ be4 x.pages.toNat := by simp [bl, cell]
 show some (⟨x.ep, rd4 (bl (cell x)) 0, rd4 (bl (cell x)) 4, rd4 (bl (cell x)) 8⟩ : Sp) = some x
 rw [hb, rd4_be4 _ [] (be4 x.free.toNat ++ be4 x.pages.toNat) x.root.toNat 0 (by omega) (by simp) rfl, rd4_be4 _ (be4 x.root.toNat) (be4 x.pages.toNat) x.free.toNat 4 (by omega) rfl rfl,
  rd4_be4 _ (be4 x.root.toNat ++ be4 x.free.toNat) [] x.pages.toNat 8 (by omega) (by simp) rfl]
 obtain ⟨xe, xr, xf, xp⟩ := x
 simp only at *
 rw [Option.some.injEq, Sp.mk.injEq]
 refine ⟨rfl, ?_, ?_, ?_⟩ <;> omega
/-- p is the page of super x, in that slot -/
def Of (x : Sp) (p : Pg) (slot : Int) : Prop := Ok x ∧ p.kind = 9 ∧ p.no = x.ep % 2 ∧ p.epoch = x.ep ∧ p.link = 0 ∧ p.cells = [cell x] ∧ x.ep % 2 = slot
instance (x : Sp) (p : Pg) (slot : Int) : Decidable (Of x p slot) := by unfold Of; infer_instance
theorem of_iff {x : Sp} {p : Pg} {slot : Int} : Of x p slot ↔ Ok x ∧ p = pg x ∧ x.ep % 2 = slot := by
 constructor
 ·rintro ⟨h1, h2, h3, h4, h5, h6, h7⟩
  exact ⟨h1, pg_ext h2 h3 h4 h5 h6, h7⟩
 ·rintro ⟨h1, rfl, h3⟩
  exact ⟨h1, rfl, rfl, rfl, rfl, rfl, h3⟩
/-- what a slot's bytes tell: an error, or a super -/
def getS (slot : Int) (l : List UInt8) : Int ⊕ Sp := match gotE l with
 | .inl e => .inl e
 | .inr p => match rdS p with
  | some x => if Of x p slot then .inr x else .inl 70
  | none => .inl 70
theorem getS_bytes {x : Sp} (h : Ok x) (slot : Int) : getS slot (sbytes x) = if x.ep % 2 = slot then .inr x else .inl 70 := by
 unfold getS sbytes
 rw [gotE_page _ (pg_err h)]
 simp only [rdS_pg h]
 by_cases q : x.ep % 2 = slot
 ·rw [if_pos q, if_pos (of_iff.2 ⟨h, rfl, q⟩)]
 ·rw [if_neg q, if_neg (fun z => q (of_iff.1 z).2.2)]
theorem gotE_some {l : List UInt8} {p : Pg} (h : gotE l = .inr p) : got l = some p := by
 unfold gotE at h
 split at h
 ·split at h
  ·split at h
   ·cases h
   ·rename_i q hq
    injection h with h
    rw [hq, h]
  ·cases h
 ·cases h
theorem getS_out {slot : Int} {l : List UInt8} {x : Sp} (h : getS slot l = .inr x) : Ok x ∧ gotE l = .inr (pg x) ∧ x.ep % 2 = slot := by
 unfold getS at h
 split at h
 ·cases h
 ·rename_i p hp
  split at h
  ·rename_i y hy
   split at h
   ·rename_i hc
    obtain ⟨c1, c2, c3⟩ := of_iff.1 hc
    injection h with h
    subst h
    exact ⟨c1, by rw [hp, c2], c3⟩
   ·cases h
  ·cases h
theorem getS_err {slot : Int} {l : List UInt8} {e : Int} (h : gotE l = .inl e) : getS slot l = .inl e := by unfold getS; rw [h]
/-- the newer one -/
def pickS (a b : List UInt8) : Int ⊕ Sp := match getS 0 a, getS 1 b with
 | .inr x, .inr y => .inr (if y.ep < x.ep then x else y)
 | .inr x, .inl _ => .inr x
 | .inl _, .inr y => .inr y
 | .inl _, .inl _ => .inl 70
/-! a byte is turned -/
def flip (l : List UInt8) (p : Nat) : List UInt8 := l.set p (l[p]?.getD 0 ^^^ 1)
theorem flip_len (l : List UInt8) (p : Nat) : (flip l p).length = l.length := by simp [flip]
theorem flip_turn (l : List UInt8) (p : Nat) : flip l p = turn l (8 * p) := by
 unfold flip turn
 rw [Nat.mul_div_cancel_left _ (by omega), Nat.mul_mod_right]
 rfl
theorem xor_one (b : UInt8) : (b ^^^ 1) ≠ b := by
 intro h
 have h2 := congrArg (b ^^^ ·) h
 simp only [← UInt8.xor_assoc, UInt8.xor_self, UInt8.zero_xor] at h2
 exact absurd h2 (by decide)
theorem flip_sum {l : List UInt8} {p : Nat} (hp : p < l.length) : sum (flip l p) ≠ sum l := by
 intro h
 have h2 := (sum_differs l (flip l p) (8 * p) 1 (flip_len _ _) (by omega) (fun i hi => by
  have := bit_turn l (8 * p) i (by omega)
  rw [← flip_turn] at this
  unfold bitOf at this
  rw [List.getElem?_eq_getElem (by rw [flip_len]; exact hi), List.getElem?_eq_getElem hi] at this
  simp only [Option.getD_some] at this
  rw [this]
  congr 1
  rw [Bool.eq_iff_iff]
  simp only [decide_eq_true_eq, Bool.and_eq_true]
  constructor
  ·rintro rfl; simp
  ·rintro ⟨⟨h1, h2⟩, h3⟩
   rcases Nat.eq_zero_or_pos (i - 8 * p) with q | q
   ·omega
   ·obtain ⟨d, hd⟩ : ∃ d, i - 8 * p = d + 1 := ⟨i - 8 * p - 1, by omega⟩
    rw [hd] at h3
    simp [Nat.testBit_succ] at h3)).1 h 0 (by omega) (by omega)
 simp at h2
theorem flip_got {q : Pg} (hq : err q = 0) {p : Nat} (hp : p < 256) : gotE (flip (page q) p) = .inl 42 := by
 obtain ⟨hr, hg⟩ := (err_zero q).1 hq
 have hb := body_len q hr
 rcases Nat.lt_or_ge p 252 with h | h
 ·have e : flip (page q) p = flip (body q) p ++ be4 (sum (body q)) := by
   unfold flip page
   rw [List.set_append_left _ _ (by omega), List.getElem?_append_left (by omega)]
  have h1 : (flip (page q) p).take 252 = flip (body q) p := by rw [e, ← hb, ← flip_len (body q) p, List.take_left]
  have h2 : rd4 (flip (page q) p) 252 = sum (body q) := by rw [e]; exact rd4_be4 _ (flip (body q) p) [] _ 252 (sum_lt _) (by simp) (by rw [flip_len, hb])
  unfold gotE
  rw [if_pos (by rw [flip_len]; exact page_len q hr), h1, h2, if_neg (flip_sum (by omega))]
 ·have e : flip (page q) p = body q ++ flip (be4 (sum (body q))) (p - 252) := by
   unfold flip page
   rw [List.set_append_right _ _ (by omega), List.getElem?_append_right (by omega), hb]
  have h1 : (flip (page q) p).take 252 = body q := by rw [e, ← hb, List.take_left]
  have h2 : rd4 (flip (page q) p) 252 ≠ sum (body q) := by
   intro h2
   have h3 := rd4_be4 (page q) (body q) [] _ 252 (sum_lt (body q)) (by simp [page]) hb
   rw [← h3] at h2
   have hg : ∀ (L : List UInt8) i, gt (body q ++ L) (252 + i) = gt L i := fun L i => by
    unfold gt
    rw [List.getElem?_append_right (by omega), hb, Nat.add_sub_cancel_left]
   rw [e] at h2
   unfold page rd4 at h2
   have g0 := fun L => hg L 0
   have g1 := fun L => hg L 1
   have g2 := fun L => hg L 2
   have g3 := fun L => hg L 3
   simp only [Nat.add_zero, show (252 : Nat) + 1 = 253 from rfl, show (252 : Nat) + 2 = 254 from rfl, show (252 : Nat) + 3 = 255 from rfl] at g0 g1 g2 g3 h2
   rw [g0, g1, g2, g3, g0, g1, g2, g3] at h2
   generalize sum (body q) = s at h2
   have k0 := gt_lt (be4 s) 0
   have k1 := gt_lt (be4 s) 1
   have k2 := gt_lt (be4 s) 2
   have k3 := gt_lt (be4 s) 3
   have f0 := gt_lt (flip (be4 s) (p - 252)) 0
   have f1 := gt_lt (flip (be4 s) (p - 252)) 1
   have f2 := gt_lt (flip (be4 s) (p - 252)) 2
   have f3 := gt_lt (flip (be4 s) (p - 252)) 3
   have hne : gt (flip (be4 s) (p - 252)) (p - 252) ≠ gt (be4 s) (p - 252) := by
    have hlt : p - 252 < (be4 s).length := by show p - 252 < 4; omega
    unfold gt flip
    rw [List.getElem?_set_self hlt]
    simp only [Option.getD_some]
    exact fun h => xor_one _ (UInt8.toNat_inj.1 h)
   have : p - 252 = 0 ∨ p - 252 = 1 ∨ p - 252 = 2 ∨ p - 252 = 3 := by omega
   rcases this with j | j | j | j <;> rw [j] at hne h2 f0 f1 f2 f3 <;> omega
  unfold gotE
  rw [if_pos (by rw [flip_len]; exact page_len q hr), h1, if_neg (fun h => h2 h.symm)]
/-- other bytes ahead of the sum, whose sum is another one -/
theorem bad_body {q : Pg} {l : List UInt8} (hl : l.length = 252) (h : sum l ≠ sum (body q)) : gotE (l ++ be4 (sum (body q))) = .inl 42 := by
 have h1 : (l ++ be4 (sum (body q))).take 252 = l := by rw [← hl, List.take_left]
 have h2 : rd4 (l ++ be4 (sum (body q))) 252 = sum (body q) := rd4_be4 _ l [] _ 252 (sum_lt _) (by simp) hl
 unfold gotE
 rw [if_pos (by rw [List.length_append, hl, be4_len]), h1, h2, if_neg h]
theorem getS_flip {x : Sp} (h : Ok x) (slot : Int) {p : Nat} (hp : p < 256) : getS slot (flip (sbytes x) p) = .inl 42 := getS_err (flip_got (pg_err h) hp)
/-- of two -/
theorem pick_two {x y : Sp} (hx : Ok x) (hy : Ok y) (h0 : x.ep % 2 = 0) (h1 : y.ep % 2 = 1) : pickS (sbytes x) (sbytes y) = .inr (if y.ep < x.ep then x else y) := by
 unfold pickS
 rw [getS_bytes hx, getS_bytes hy, if_pos h0, if_pos h1]
theorem pick_first {x y : Sp} (hx : Ok x) (hy : Ok y) (h0 : x.ep % 2 = 0) {p : Nat} (hp : p < 256) : pickS (sbytes x) (flip (sbytes y) p) = .inr x := by
 unfold pickS
 rw [getS_bytes hx, getS_flip hy 1 hp, if_pos h0]
theorem pick_second {x y : Sp} (hx : Ok x) (hy : Ok y) (h1 : y.ep % 2 = 1) {p : Nat} (hp : p < 256) : pickS (flip (sbytes x) p) (sbytes y) = .inr y := by
 unfold pickS
 rw [getS_flip hx 0 hp, getS_bytes hy, if_pos h1]
theorem pick_none {x y : Sp} (hx : Ok x) (hy : Ok y) {p q : Nat} (hp : p < 256) (hq : q < 256) : pickS (flip (sbytes x) p) (flip (sbytes y) q) = .inl 70 := by
 unfold pickS
 rw [getS_flip hx 0 hp, getS_flip hy 1 hq]
/-- whatever lies in slot 0: with a super in slot 1 there is one -/
theorem pick_any {l : List UInt8} {y : Sp} (hy : Ok y) (h1 : y.ep % 2 = 1) : ∃ z, pickS l (sbytes y) = .inr z := by
 unfold pickS
 rw [getS_bytes hy, if_pos h1]
 cases getS 0 l with
 | inl e => exact ⟨y, rfl⟩
 | inr x => exact ⟨_, rfl⟩
/-- what no super's slot holds -/
theorem noughts (slot : Int) : ∃ e, getS slot (List.replicate 256 0) = .inl e := by
 cases h : getS slot (List.replicate 256 0) with
 | inl e => exact ⟨e, rfl⟩
 | inr x =>
  exfalso
  obtain ⟨h1, h2, _⟩ := getS_out h
  have h3 := (got_out (gotE_some h2)).2.2
  have h4 : (body (pg x))[0]? = some 9 := by unfold body prt hd; rfl
  rw [h3, List.getElem?_take_of_lt (by omega), List.getElem?_replicate_of_lt (by omega)] at h4
  injection h4 with h4
  exact absurd h4 (by decide)
/-- the chapter's example: one byte of the newer one is turned -/
theorem awake_turned : pickS (sbytes ⟨4, 3, 0, 9⟩) ((sbytes ⟨5, 5, 6, 10⟩).set 0 10) = .inr ⟨4, 3, 0, 9⟩ := by
 have hx : Ok ⟨4, 3, 0, 9⟩ := by decide
 have hy : Ok ⟨5, 5, 6, 10⟩ := by decide
 have hb := body_len (pg ⟨5, 5, 6, 10⟩) (by rw [pg_room]; omega)
 have e : (sbytes ⟨5, 5, 6, 10⟩).set 0 10 = (body (pg ⟨5, 5, 6, 10⟩)).set 0 10 ++ be4 (sum (body (pg ⟨5, 5, 6, 10⟩))) := by
  unfold sbytes page
  rw [List.set_append_left _ _ (by omega)]
 have h : getS 1 ((sbytes ⟨5, 5, 6, 10⟩).set 0 10) = .inl 42 := getS_err (by
  rw [e]
  exact bad_body (by rw [List.length_set, hb]) (by decide +kernel))
 unfold pickS
 rw [h, getS_bytes hx, if_pos (by decide)]
def next (x : Sp) (r f p : Int) : Sp := ⟨x.ep + 1, r, f, p⟩
end Go.Proofs.YtpidnkfcccboaaaGreat.SuperPlain
namespace Go.Proofs.YtpidnkfcccboaaaGreat.SuperRefCheck
open Go.RowKit Base SuperPlain

abbrev sv (x : Sp) : Value := .agg #[.int .i64 x.ep, .int .i64 x.root, .int .i64 x.free, .int .i64 x.pages]
theorem al (w : World) (o : Obj) : Below w.heap.size w (w.alloc o) := (Below.refl _ _).alloc (Nat.le_refl _) _
end Go.Proofs.YtpidnkfcccboaaaGreat.SuperRefCheck
namespace Go.Proofs.YtpidnkfcccboaaaGreat.SuperPlumb
open Go.ChangeShapes Go.WideShapes Go.RowKit Base Plumb SuperPlain SuperRefCheck

/-- numbers that an int holds -/
def In (z : Int) : Prop := -9223372036854775808 ≤ z ∧ z ≤ 9223372036854775807
def InS (x : Sp) : Prop := In x.ep ∧ In x.root ∧ In x.free ∧ In x.pages
theorem in_wf {z : Int} (h : (Lit.int .i64 z).wf = true) : In z := by
 simpa [In, Lit.wf, IntKind.min, IntKind.max, IntKind.signed, IntKind.bits] using h
/-- a list of supers, as cells -/
def fls (l : List Sp) : List Value := l.flatMap fun x => [.int .i64 x.ep, .int .i64 x.root, .int .i64 x.free, .int .i64 x.pages]
theorem fls_cons (x : Sp) (l : List Sp) : fls (x :: l) = .int .i64 x.ep :: .int .i64 x.root :: .int .i64 x.free :: .int .i64 x.pages :: fls l := rfl
theorem fls_len : ∀ l : List Sp, (fls l).length = l.length * 4
 | [] => rfl
 | x :: l => by rw [fls_cons]; simp [fls_len l]; omega
theorem fls_at : ∀ {l : List Sp} {k : Nat} {x : Sp}, l[k]? = some x → (fls l)[k * 4]? = some (.int .i64 x.ep) ∧ (fls l)[k * 4 + 1]? = some (.int .i64 x.root) ∧ (fls l)[k * 4 + 2]? = some (.int .i64 x.free) ∧ (fls l)[k * 4 + 3]? = some (.int .i64 x.pages)
 | [], _, _, h => by simp at h
 | y :: l, 0, x, h => by
  simp at h
  subst h
  exact ⟨rfl, rfl, rfl, rfl⟩
 | y :: l, k + 1, x, h => by
  obtain ⟨h1, h2, h3, h4⟩ := fls_at (l := l) (k := k) (x := x) (by simpa using h)
  have e : (k + 1) * 4 = k * 4 + 4 := by omega
  rw [fls_cons, e]
  exact ⟨by simpa using h1, by simpa using h2, by simpa using h3, by simpa using h4⟩
theorem list_of {α : Type} {p : Nat → α → Prop} : ∀ n : Nat, (∀ i, i < n → ∃ x, p i x) → ∃ l : List α, l.length = n ∧ ∀ i x, l[i]? = some x → p i x
 | 0, _ => ⟨[], rfl, fun i x h => by simp at h⟩
 | n + 1, h => by
  obtain ⟨l, hl, hp⟩ := list_of n fun i hi => h i (by omega)
  obtain ⟨x, hx⟩ := h n (by omega)
  refine ⟨l ++ [x], by simp [hl], fun i y hy => ?_⟩
  rcases Nat.lt_or_ge i l.length with q | q
  ·rw [List.getElem?_append_left q] at hy; exact hp i y hy
  ·rw [List.getElem?_append_right q] at hy
   rcases Nat.eq_zero_or_pos (i - l.length) with r | r
   ·rw [r] at hy; simp at hy; subst hy; rw [show i = n by omega]; exact hx
   ·rw [List.getElem?_eq_none (by simp; omega)] at hy; cases hy
section
variable {H : Type} {enc : TypeId × Value → H} {W : World} {base : Nat} {sp : Nat → Bool} {held : Bool}
set_option maxRecDepth 100000 in
/-- a super -/
theorem open_super {v : Value} {d : DataW H} {p : List MemPlace} (hv : Value.okWide Tryz.prog W .any base 29 v) (h : DataW.Trod enc Tryz.prog W 0 (fun _ => true) true 29 v d p) :
  ∃ x : Sp, v = sv x ∧ InS x := by
 have hC : Tryz.prog.cellsOf 29 = 4 := by kernel_rfl
 have c3 : Tryz.prog.cellsOf 3 = 1 := by kernel_rfl
 simp only [Value.okWide, Tryz.underlying29] at hv
 obtain ⟨cs, rfl, hsz, _⟩ := hv
 rw [hC] at hsz
 obtain ⟨l⟩ := cs
 match l, hsz with
 | [v0, v1, v2, v3], _ =>
  obtain ⟨fuel, hf⟩ := h
  obtain ⟨ys, n', _, _, _, hyl, hg⟩ := DataW.trod_struct Tryz.underlying29 hf
  have f0 := hg 0 _ rfl
  have f1 := hg 1 _ rfl
  have f2 := hg 2 _ rfl
  have f3 := hg 3 _ rfl
  match ys, hyl with
  | [y0, y1, y2, y3], _ =>
   simp [c3, Value.cells] at f0 f1 f2 f3
   obtain ⟨z0, e0, _, w0⟩ := DataW.trod_int Tryz.underlying3 f0
   obtain ⟨z1, e1, _, w1⟩ := DataW.trod_int Tryz.underlying3 f1
   obtain ⟨z2, e2, _, w2⟩ := DataW.trod_int Tryz.underlying3 f2
   obtain ⟨z3, e3, _, w3⟩ := DataW.trod_int Tryz.underlying3 f3
   injection e0 with e0
   injection e1 with e1
   injection e2 with e2
   injection e3 with e3
   subst e0 e1 e2 e3
   exact ⟨⟨z0, z1, z2, z3⟩, rfl, in_wf w0, in_wf w1, in_wf w2, in_wf w3⟩
set_option maxRecDepth 100000 in
end
end Go.Proofs.YtpidnkfcccboaaaGreat.SuperPlumb
