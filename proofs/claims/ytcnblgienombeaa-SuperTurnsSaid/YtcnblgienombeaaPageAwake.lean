/- What the chapter's example fixes. -/
import Derived.Test.YtcnblgienombeaaPageRef
import Derived.Test.YtcnblgienombeaaPageGet
namespace Go.Proofs.Ytcnblgienombeaa.PageAwake
open Go.RowKit Base PagePlain PageSmall PageBytes PageLay PagePut PageCut PageTold PageTold2 PageIs PageGet PageSame PageRef SumMem SumFill SumOf SumPlain
open PageSame2

/-- what each law comes to -/
def Law (w : World) (e : Ending) (w' : World) : Prop := e = .returned (.bool true) ∧ Below w.heap.size w w'
def P0 : Pg := ⟨1, 2, 3, 0, [⟨#[97, 98]⟩, ⟨#[]⟩]⟩
theorem p0_err : err P0 = 0 := by decide
theorem gotE_page (p : Pg) (h : err p = 0) : gotE (page p) = .inr p := by
  obtain ⟨hr, hg⟩ := (err_zero p).1 h
  unfold gotE
  have h1 : (page p).take 252 = body p := by unfold page; rw [← body_len p hr, List.take_left]
  rw [if_pos (page_len p hr), h1, rd4_page p hr, if_pos rfl]
  have : got (page p) = some p := got_body p hr hg _
  rw [this]
theorem row_of {w : World} {b : Nat} {t : TypeId} {l : List UInt8} (h : Arr w b t l) (o n : Nat) : Row w w.heap.size (some ((⟨b, 0, none⟩ : Addr).add o)) (bv ((l.drop o).take n)) := row_head (row_drop (Arr.row h) o) n
theorem sl_lh (ad : Addr) (n c i k : Nat) (hi : i < k) (hk : k ≤ c) (x y : Int) (hx : x = i) (hy : y = k) (w : World) : (Instr.slice 27 (.slice (some ad) n c) (some (.int .i64 x)) (some (.int .i64 y)) none).run Try.prog w = .ok (.slice (some (ad.add i)) (k - i) (c - i)) w := by
  subst hx hy
  rw [run_slice_lh w 27 (some ad) n c under_u8 .i64 .i64 i k (by omega) (by omega) (by omega), size_u8]
  simp only [sliced, Result.andThen, Int.toNat_natCast, Nat.mul_one]
  rw [if_neg (by omega)]
  rfl
theorem own_rowX {w : World} {B g c : Nat} {e : TypeId} {A : Option Addr} {xs : List Value} (h : Own w B e A c xs) (hg : g < B) : RowX w g A xs := fun k v hv => by
  obtain ⟨ad, e1, hb, hc⟩ := h.row k v hv
  refine ⟨ad, e1, hb, ?_, hc⟩
  have := (h.block ad.block (by rw [e1]; rfl)).1
  omega
theorem five {w : World} {g : Nat} {t : TypeId} {a b c d e : Value} (h : At w g t #[a, b, c, d, e]) : w.cell? ⟨g, 0, none⟩ = some a ∧ w.cell? ⟨g, 1, none⟩ = some b ∧ w.cell? ⟨g, 2, none⟩ = some c ∧ w.cell? ⟨g, 3, none⟩ = some d ∧ w.cell? ⟨g, 4, none⟩ = some e :=
  ⟨by rw [h.cell]; rfl, by rw [h.cell]; rfl, by rw [h.cell]; rfl, by rw [h.cell]; rfl, by rw [h.cell]; rfl⟩
theorem at_rowX {w : World} {g b : Nat} {t : TypeId} {vs : List Value} (h : At w b t vs.toArray) (hg : b ≠ g) : RowX w g (some ⟨b, 0, none⟩) vs := fun k v hv => by
  refine ⟨_, rfl, h.lt, hg, ?_⟩
  rw [add_zero_block, h.cell]
  simpa using hv
theorem at_only {w w' : World} {g b : Nat} {t : TypeId} {cs : Array Value} (h : At w b t cs) (ho : Only g w w') (hg : b ≠ g) : At w' b t cs := (ho.block b h.lt (fun e => hg (Option.some.inj e))).trans h
theorem at_below {w w' : World} {b : Nat} {t : TypeId} {cs : Array Value} (h : At w b t cs) (hb : Below w.heap.size w w') : At w' b t cs := (hb.block b h.lt).trans h
theorem p0_18 : (page P0).take 18 = [1, 2, 0, 0, 0, 2, 0, 0, 0, 3, 0, 0, 0, 0, 250, 2, 250, 0] := by decide +kernel
theorem p0_249 : ((page P0).drop 249).take 3 = [0, 97, 98] := by decide +kernel
theorem same_self (p : Pg) : same p p = true := (same_iff p p).2 rfl

end Go.Proofs.Ytcnblgienombeaa.PageAwake
