/- SumPlain, PagePlain, SumRefPlain. -/
import Derived.Lib.Hide
/- Plain facts on sums: a division of polynomials over 0 and 1, bit by bit and byte by byte. No Go. -/
namespace Go.Proofs.YtpidnkfcccboaaaGreat.SumPlain

def D : Nat := 3988292384
/-- one bit of the division -/
def step1 (r : Nat) : Nat := (r >>> 1) ^^^ (if r.testBit 0 then D else 0)
def iter : Nat → Nat → Nat
 | 0, r => r
 | n + 1, r => iter n (step1 r)
theorem iter_succ (n r : Nat) : iter (n + 1) r = iter n (step1 r) := rfl
theorem iter_last (n r : Nat) : iter (n + 1) r = step1 (iter n r) := by
 induction n generalizing r with
 | zero => rfl
 | succ n ih => rw [iter_succ, ih]; rfl
theorem D_lt : D < 2 ^ 32 := by decide
theorem step1_lt {r : Nat} (h : r < 2 ^ 32) : step1 r < 2 ^ 32 := by
 unfold step1
 apply Nat.xor_lt_two_pow
 ·rw [Nat.shiftRight_eq_div_pow]; omega
 ·split
  ·exact D_lt
  ·decide
theorem iter_lt {r : Nat} (n : Nat) (h : r < 2 ^ 32) : iter n r < 2 ^ 32 := by
 induction n generalizing r with
 | zero => exact h
 | succ n ih => exact ih (step1_lt h)
theorem xor_swap (a b c d : Nat) : (a ^^^ b) ^^^ (c ^^^ d) = (a ^^^ c) ^^^ (b ^^^ d) := by
 rw [Nat.xor_assoc, Nat.xor_assoc, ← Nat.xor_assoc b c d, Nat.xor_comm b c, Nat.xor_assoc c b d]
theorem step1_xor (a b : Nat) : step1 (a ^^^ b) = step1 a ^^^ step1 b := by
 unfold step1
 rw [Nat.shiftRight_xor_distrib, xor_swap, Nat.testBit_xor]
 congr 1
 cases a.testBit 0 <;> cases b.testBit 0 <;> simp
theorem iter_xor (n a b : Nat) : iter n (a ^^^ b) = iter n a ^^^ iter n b := by
 induction n generalizing a b with
 | zero => rfl
 | succ n ih => rw [iter_succ, step1_xor, ih]; rfl
theorem step1_double (q : Nat) : step1 (2 * q) = q := by
 unfold step1
 have h1 : (2 * q).testBit 0 = false := by simp [Nat.testBit_zero]
 rw [h1, Nat.shiftRight_eq_div_pow]
 simp
theorem iter8_shift (q : Nat) : iter 8 (256 * q) = q := by
 have h : 256 * q = 2 * (2 * (2 * (2 * (2 * (2 * (2 * (2 * q))))))) := by omega
 rw [h]
 simp only [iter, step1_double]
/-- what is left of a byte, as the table has it -/
def tab (i : Nat) : Nat := iter 8 i
theorem tab_lt (i : Nat) (h : i < 256) : tab i < 2 ^ 32 := iter_lt 8 (by omega)
def stepB (r : Nat) (x : UInt8) : Nat := (r / 256) ^^^ tab ((r % 256) ^^^ x.toNat)
theorem byte_xor_lt (r : Nat) (x : UInt8) : (r % 256) ^^^ x.toNat < 256 := Nat.xor_lt_two_pow (n := 8) (by omega) (UInt8.toNat_lt x)
theorem split8 (r : Nat) : r = (256 * (r / 256)) ^^^ (r % 256) := by
 have h := Nat.div_add_mod r 256
 conv => lhs; rw [← h]
 apply Nat.eq_of_testBit_eq
 intro i
 have e : 256 * (r / 256) + r % 256 = 2 ^ 8 * (r / 256) + r % 256 := rfl
 have e2 : 256 * (r / 256) = 2 ^ 8 * (r / 256) := rfl
 rw [e, Nat.testBit_two_pow_mul_add _ (show r % 256 < 2 ^ 8 by omega), Nat.testBit_xor, e2, Nat.testBit_two_pow_mul]
 by_cases hi : i < 8
 ·rw [if_pos hi]; simp [show ¬ 8 ≤ i by omega]
 ·rw [if_neg hi]
  have : (r % 256).testBit i = false := Nat.testBit_lt_two_pow (Nat.lt_of_lt_of_le (show r % 256 < 2 ^ 8 by omega) (Nat.pow_le_pow_right (by omega) (by omega)))
  simp [this, show 8 ≤ i by omega]
theorem stepB_eq (r : Nat) (x : UInt8) : stepB r x = iter 8 (r ^^^ x.toNat) := by
 conv => rhs; rw [split8 r]
 rw [Nat.xor_assoc, iter_xor, iter8_shift]
 rfl
theorem stepB_lt {r : Nat} (x : UInt8) (h : r < 2 ^ 32) : stepB r x < 2 ^ 32 := by
 rw [stepB_eq]
 exact iter_lt 8 (Nat.xor_lt_two_pow h (by have := UInt8.toNat_lt x; omega))
/-- the rest when bytes follow what left r -/
def crc (r : Nat) (l : List UInt8) : Nat := l.foldl stepB r
theorem crc_append (r : Nat) (a b : List UInt8) : crc r (a ++ b) = crc (crc r a) b := by simp [crc]
theorem crc_lt {r : Nat} (l : List UInt8) (h : r < 2 ^ 32) : crc r l < 2 ^ 32 := by
 induction l generalizing r with
 | nil => exact h
 | cons x l ih => exact ih (stepB_lt x h)
def full : Nat := 4294967295
/-- the sum of bytes -/
def sum (l : List UInt8) : Nat := crc full l ^^^ full
theorem full_lt : full < 2 ^ 32 := by decide
theorem sum_lt (l : List UInt8) : sum l < 2 ^ 32 := Nat.xor_lt_two_pow (crc_lt l full_lt) full_lt
theorem sum_nil : sum [] = 0 := by decide

/-! bit by bit -/
def cb : Nat → List Bool → Nat
 | r, [] => r
 | r, b :: p => cb (step1 (r ^^^ b.toNat)) p
def ofBits : List Bool → Nat
 | [] => 0
 | b :: p => b.toNat ^^^ (2 * ofBits p)
def bitsB (x : UInt8) : List Bool := (List.range 8).map fun k => x.toNat.testBit k
def bitsL (l : List UInt8) : List Bool := l.flatMap bitsB
end Go.Proofs.YtpidnkfcccboaaaGreat.SumPlain
namespace Go.Proofs.YtpidnkfcccboaaaGreat.PagePlain
open Go SumPlain

structure Pg where
 kind : Int
 no : Int
 epoch : Int
 link : Int
 cells : List ByteArray
theorem pg_ext {a b : Pg} (h1 : a.kind = b.kind) (h2 : a.no = b.no) (h3 : a.epoch = b.epoch) (h4 : a.link = b.link) (h5 : a.cells = b.cells) : a = b := by
 cases a; cases b; simp_all
def bl (s : ByteArray) : List UInt8 := s.data.toList
theorem bl_len (s : ByteArray) : (bl s).length = s.size := rfl
theorem mk_bl (s : ByteArray) : (⟨(bl s).toArray⟩ : ByteArray) = s := by
 show (⟨s.data.toList.toArray⟩ : ByteArray) = s
 rw [Array.toArray_toList]
def tot : List ByteArray → Nat
 | [] => 0
 | c :: cs => c.size + tot cs
def room (cs : List ByteArray) : Nat := 2 * cs.length + tot cs
theorem tot_append (a b : List ByteArray) : tot (a ++ b) = tot a + tot b := by
 induction a with
 | nil => simp [tot]
 | cons c a ih => simp [tot, ih]; omega
theorem room_append (a b : List ByteArray) : room (a ++ b) = room a + room b := by
 unfold room; rw [tot_append, List.length_append]; omega
theorem room_nil : room [] = 0 := rfl
theorem room_one (c : ByteArray) : room [c] = 2 + c.size := by simp [room, tot]
theorem room_take (cs : List ByteArray) (k : Nat) (hk : k < cs.length) : room (cs.take (k + 1)) = room (cs.take k) + (2 + cs[k].size) := by
 rw [List.take_succ_eq_append_getElem hk, room_append, room_one]
theorem tot_take (cs : List ByteArray) (k : Nat) (hk : k < cs.length) : tot (cs.take (k + 1)) = tot (cs.take k) + cs[k].size := by
 rw [List.take_succ_eq_append_getElem hk, tot_append]; simp [tot]
theorem room_le (cs : List ByteArray) (k : Nat) : room (cs.take k) ≤ room cs := by
 have : room cs = room (cs.take k) + room (cs.drop k) := by rw [← room_append, List.take_append_drop]
 omega
theorem tot_le (cs : List ByteArray) (m : Nat) (h : ∀ c ∈ cs, c.size ≤ m) : tot cs ≤ cs.length * m := by
 induction cs with
 | nil => simp [tot]
 | cons c cs ih =>
  have h1 := h c (by simp)
  have h2 := ih fun x hx => h x (by simp [hx])
  simp only [tot, List.length_cons, Nat.succ_mul]; omega
def PgOk (p : Pg) : Prop := 1 ≤ p.kind ∧ p.kind ≤ 255 ∧ 0 ≤ p.no ∧ p.no ≤ 4294967295 ∧ 0 ≤ p.epoch ∧ p.epoch ≤ 4294967295 ∧ 0 ≤ p.link ∧ p.link ≤ 4294967295
instance (p : Pg) : Decidable (PgOk p) := inferInstanceAs (Decidable (_ ∧ _))
/-- Put's error of a page -/
def err (p : Pg) : Int := if room p.cells ≤ 236 then if PgOk p then 0 else 41 else 40
def b8 (n : Nat) : UInt8 := UInt8.ofNat n
theorem b8_nat (n : Nat) : (b8 n).toNat = n % 256 := by simp [b8]
theorem b8_lt {n : Nat} (h : n < 256) : (b8 n).toNat = n := by rw [b8_nat, Nat.mod_eq_of_lt h]
def be4 (n : Nat) : List UInt8 := [b8 (n / 16777216), b8 (n / 65536), b8 (n / 256), b8 n]
def tab : Nat → List ByteArray → List UInt8
 | _, [] => []
 | e, c :: cs => b8 (e - c.size) :: b8 c.size :: tab (e - c.size) cs
def rev : List ByteArray → List UInt8
 | [] => []
 | c :: cs => rev cs ++ bl c
def hd (p : Pg) : List UInt8 := [b8 p.kind.toNat, b8 p.cells.length] ++ (be4 p.no.toNat ++ be4 p.epoch.toNat ++ be4 p.link.toNat)
/-- the bytes ahead of the sum, with the first k cells -/
def prt (p : Pg) (k : Nat) : List UInt8 := hd p ++ tab 252 (p.cells.take k) ++ List.replicate (238 - room (p.cells.take k)) 0 ++ rev (p.cells.take k)
def body (p : Pg) : List UInt8 := prt p p.cells.length
def page (p : Pg) : List UInt8 := body p ++ be4 (sum (body p))
theorem hd_len (p : Pg) : (hd p).length = 14 := by simp [hd, be4]
theorem be4_len (n : Nat) : (be4 n).length = 4 := rfl
theorem tab_len (e : Nat) (cs : List ByteArray) : (tab e cs).length = 2 * cs.length := by
 induction cs generalizing e with
 | nil => rfl
 | cons c cs ih => simp [tab, ih]; omega
theorem rev_len (cs : List ByteArray) : (rev cs).length = tot cs := by
 induction cs with
 | nil => rfl
 | cons c cs ih => simp [rev, tot, ih, bl_len]; omega
theorem tab_snoc (e : Nat) (cs : List ByteArray) (c : ByteArray) : tab e (cs ++ [c]) = tab e cs ++ [b8 (e - tot cs - c.size), b8 c.size] := by
 induction cs generalizing e with
 | nil => simp [tab, tot]
 | cons d cs ih => simp only [List.cons_append, tab, ih, tot]; rw [show e - d.size - tot cs = e - (d.size + tot cs) by omega]
theorem rev_snoc (cs : List ByteArray) (c : ByteArray) : rev (cs ++ [c]) = bl c ++ rev cs := by
 induction cs with
 | nil => simp [rev]
 | cons d cs ih => simp [rev, ih]
theorem prt_len (p : Pg) (k : Nat) (hk : k ≤ p.cells.length) (h : room p.cells ≤ 236) : (prt p k).length = 252 := by
 have h1 := room_le p.cells k
 have h2 : room (p.cells.take k) = 2 * k + tot (p.cells.take k) := by unfold room; rw [List.length_take, Nat.min_eq_left hk]
 unfold prt
 simp only [List.length_append, hd_len, tab_len, List.length_replicate, rev_len, List.length_take, Nat.min_eq_left hk]
 omega
theorem body_len (p : Pg) (h : room p.cells ≤ 236) : (body p).length = 252 := prt_len p _ (Nat.le_refl _) h
theorem page_len (p : Pg) (h : room p.cells ≤ 236) : (page p).length = 256 := by unfold page; rw [List.length_append, body_len p h, be4_len]
/-- put in place -/
def splice (l : List UInt8) (o : Nat) (c : List UInt8) : List UInt8 := l.take o ++ c ++ l.drop (o + c.length)
theorem splice_zero (A R c : List UInt8) (m : Nat) (h : c.length + 2 ≤ m) :
  splice (A ++ List.replicate m 0 ++ R) (A.length + (m - c.length)) c = A ++ List.replicate (m - c.length) 0 ++ (c ++ R) := by
 unfold splice
 rw [show A ++ List.replicate m 0 ++ R = A ++ (List.replicate (m - c.length) 0 ++ (List.replicate c.length 0 ++ R)) by
  rw [← List.append_assoc (List.replicate _ _), List.replicate_append_replicate]; rw [show m - c.length + c.length = m by omega]; simp]
 rw [List.take_append, List.take_of_length_le (by omega), show A.length + (m - c.length) - A.length = (List.replicate (m - c.length) (0 : UInt8)).length by simp, List.take_left]
 rw [List.drop_append, List.drop_of_length_le (by omega), show A.length + (m - c.length) + c.length - A.length = (List.replicate (m - c.length) (0 : UInt8)).length + c.length by simp; omega]
 have e : List.drop c.length (List.replicate c.length (0 : UInt8) ++ R) = R := by
  have := List.drop_left (l₁ := List.replicate c.length (0 : UInt8)) (l₂ := R)
  rwa [List.length_replicate] at this
 rw [← List.drop_drop, List.drop_left, e]
 simp
theorem set_two (A R : List UInt8) (m : Nat) (x y : UInt8) : ((A ++ List.replicate (m + 2) 0 ++ R).set A.length x).set (A.length + 1) y = A ++ [x, y] ++ List.replicate m 0 ++ R := by
 rw [show A ++ List.replicate (m + 2) 0 ++ R = A ++ (0 :: 0 :: (List.replicate m 0 ++ R)) by simp [List.replicate_succ]]
 rw [List.set_append_right _ _ (Nat.le_refl _), List.set_append_right _ _ (by omega)]
 simp
/-- one cell more -/
theorem prt_succ (p : Pg) (k : Nat) (hk : k < p.cells.length) (h : room p.cells ≤ 236) (Z : List UInt8) :
  ((splice (prt p k ++ Z) (252 - tot (p.cells.take (k + 1))) (bl p.cells[k])).set (14 + 2 * k) (b8 (252 - tot (p.cells.take (k + 1))))).set (14 + 2 * k + 1) (b8 p.cells[k].size) = prt p (k + 1) ++ Z := by
 have h1 := room_le p.cells (k + 1)
 have h2 : room (p.cells.take k) = 2 * k + tot (p.cells.take k) := by unfold room; rw [List.length_take, Nat.min_eq_left (by omega)]
 have h3 := room_take p.cells k hk
 have h4 := tot_take p.cells k hk
 have h5 : (hd p ++ tab 252 (p.cells.take k)).length = 14 + 2 * k := by simp only [List.length_append, hd_len, tab_len, List.length_take, Nat.min_eq_left (Nat.le_of_lt hk)]
 have hs := splice_zero (hd p ++ tab 252 (p.cells.take k)) (rev (p.cells.take k) ++ Z) (bl p.cells[k]) (238 - room (p.cells.take k)) (by rw [bl_len]; omega)
 rw [bl_len, h5, show 14 + 2 * k + (238 - room (p.cells.take k) - p.cells[k].size) = 252 - tot (p.cells.take (k + 1)) by omega] at hs
 have hs' : splice (prt p k ++ Z) (252 - tot (p.cells.take (k + 1))) (bl p.cells[k]) = hd p ++ tab 252 (p.cells.take k) ++ List.replicate ((238 - room (p.cells.take (k + 1))) + 2) 0 ++ (bl p.cells[k] ++ (rev (p.cells.take k) ++ Z)) := by
  rw [show 238 - room (p.cells.take (k + 1)) + 2 = 238 - room (p.cells.take k) - p.cells[k].size by omega, ← hs]
  unfold prt; simp
 rw [hs']
 have ht := set_two (hd p ++ tab 252 (p.cells.take k)) (bl p.cells[k] ++ (rev (p.cells.take k) ++ Z)) (238 - room (p.cells.take (k + 1))) (b8 (252 - tot (p.cells.take (k + 1)))) (b8 p.cells[k].size)
 rw [h5] at ht
 rw [ht]
 unfold prt
 rw [List.take_succ_eq_append_getElem hk, tab_snoc, rev_snoc, tot_append]
 simp only [tot, List.append_assoc]
 rw [show 252 - tot (p.cells.take k) - p.cells[k].size = 252 - (tot (p.cells.take k) + (p.cells[k].size + 0)) by omega]

/-! told -/
def gt (l : List UInt8) (i : Nat) : Nat := (l[i]?.getD 0).toNat
theorem gt_lt (l : List UInt8) (i : Nat) : gt l i < 256 := UInt8.toNat_lt _
theorem gt_get (l : List UInt8) (i : Nat) (h : i < l.length) : gt l i = l[i].toNat := by unfold gt; rw [List.getElem?_eq_getElem h]; rfl
def sub (l : List UInt8) (o n : Nat) : ByteArray := ⟨((l.drop o).take n).toArray⟩
def cuts (l : List UInt8) : Nat → Nat → Nat → Option (List ByteArray)
 | 0, _, _ => some []
 | n + 1, s, e => if gt l s + gt l (s + 1) = e then (cuts l n (s + 2) (gt l s)).map (sub l (gt l s) (gt l (s + 1)) :: ·) else none
def rd4 (l : List UInt8) (i : Nat) : Nat := ((gt l i * 256 + gt l (i + 1)) * 256 + gt l (i + 2)) * 256 + gt l (i + 3)
def told (l : List UInt8) : Option Pg := if 236 < 2 * gt l 1 then none else (cuts l (gt l 1) 14 252).map fun cs => ⟨gt l 0, rd4 l 2, rd4 l 6, rd4 l 10, cs⟩
def got (l : List UInt8) : Option Pg := (told l).bind fun p => if err p = 0 ∧ body p = l.take 252 then some p else none
theorem gt_of {l : List UInt8} {i : Nat} {x : UInt8} (h : l[i]? = some x) : gt l i = x.toNat := by unfold gt; rw [h]; rfl
theorem cuts_tab (L : List UInt8) (cs : List ByteArray) (s e : Nat) (h1 : ∀ i, i < 2 * cs.length → L[s + i]? = (tab e cs)[i]?) (h2 : (L.drop (e - tot cs)).take (tot cs) = rev cs) (h3 : tot cs ≤ e) (h4 : e ≤ 252) :
  cuts L cs.length s e = some cs := by
 induction cs generalizing s e with
 | nil => rfl
 | cons c cs ih =>
  have a := h1 0 (by simp)
  have b := h1 1 (by simp only [List.length_cons]; omega)
  simp only [tot] at h3
  simp only [tab, List.getElem?_cons_zero, Nat.add_zero] at a
  simp only [tab, List.getElem?_cons_succ, List.getElem?_cons_zero] at b
  have ga := gt_of a
  have gb := gt_of b
  rw [b8_lt (by omega)] at ga gb
  simp only [tot, rev] at h2
  have e1 : L.drop (e - (c.size + tot cs)) = (rev cs ++ bl c) ++ L.drop e := by
   have := List.take_append_drop (c.size + tot cs) (L.drop (e - (c.size + tot cs)))
   rw [h2, List.drop_drop, show e - (c.size + tot cs) + (c.size + tot cs) = e by omega] at this
   exact this.symm
  have e2 : L.drop (e - c.size) = bl c ++ L.drop e := by
   have := congrArg (List.drop (tot cs)) e1
   rw [List.drop_drop, show e - (c.size + tot cs) + tot cs = e - c.size by omega, List.append_assoc, ← rev_len cs, List.drop_left] at this
   exact this
  simp only [List.length_cons, cuts, ga, gb]
  rw [if_pos (by omega), ih (s + 2) (e - c.size) ?_ ?_ (by omega) (by omega)]
  ·simp only [Option.map_some, sub, e2]
   rw [← bl_len c, List.take_left, mk_bl]
  ·intro i hi
   have := h1 (i + 2) (by simp only [List.length_cons]; omega)
   rw [show s + (i + 2) = s + 2 + i by omega] at this
   rw [this]
   simp only [tab, List.getElem?_cons_succ]
  ·rw [show e - c.size - tot cs = e - (c.size + tot cs) by omega, e1, List.append_assoc, ← rev_len cs, List.take_left]
theorem rd4_be4 (L A B : List UInt8) (n i : Nat) (hn : n < 4294967296) (h : L = A ++ be4 n ++ B) (hi : A.length = i) : rd4 L i = n := by
 subst h hi
 have e : ∀ k, k < 4 → ∀ x, (be4 n)[k]? = some x → gt (A ++ be4 n ++ B) (A.length + k) = x.toNat := by
  intro k hk x hx
  apply gt_of
  rw [List.append_assoc, List.getElem?_append_right (by omega), show A.length + k - A.length = k by omega, List.getElem?_append_left (by simpa [be4] using hk)]
  exact hx
 have e0 := e 0 (by omega) _ rfl
 have e1 := e 1 (by omega) _ rfl
 have e2 := e 2 (by omega) _ rfl
 have e3 := e 3 (by omega) _ rfl
 rw [Nat.add_zero] at e0
 unfold rd4
 rw [e0, e1, e2, e3]
 simp only [b8_nat]
 omega
theorem told_body (p : Pg) (hr : room p.cells ≤ 236) (hg : PgOk p) (s : List UInt8) : told (body p ++ s) = some p := by
 obtain ⟨k1, k2, n1, n2, e1, e2, l1, l2⟩ := hg
 have hlen : 2 * p.cells.length + tot p.cells ≤ 236 := hr
 have hb : body p ++ s = hd p ++ (tab 252 p.cells ++ (List.replicate (238 - room p.cells) 0 ++ (rev p.cells ++ s))) := by
  unfold body prt; rw [List.take_of_length_le (Nat.le_refl _)]; simp
 have g0 : gt (body p ++ s) 0 = p.kind.toNat := by rw [hb]; unfold hd; simp [gt, b8]; omega
 have g1 : gt (body p ++ s) 1 = p.cells.length := by rw [hb]; unfold hd; simp [gt, b8]; omega
 have r2 : rd4 (body p ++ s) 2 = p.no.toNat := rd4_be4 _ [b8 p.kind.toNat, b8 p.cells.length] _ _ 2 (by omega) (by rw [hb]; unfold hd; simp only [List.append_assoc]; rfl) rfl
 have r6 : rd4 (body p ++ s) 6 = p.epoch.toNat := rd4_be4 _ ([b8 p.kind.toNat, b8 p.cells.length] ++ be4 p.no.toNat) _ _ 6 (by omega) (by rw [hb]; unfold hd; simp only [List.append_assoc]; rfl) rfl
 have r10 : rd4 (body p ++ s) 10 = p.link.toNat := rd4_be4 _ ([b8 p.kind.toNat, b8 p.cells.length] ++ be4 p.no.toNat ++ be4 p.epoch.toNat) _ _ 10 (by omega) (by rw [hb]; unfold hd; simp only [List.append_assoc]; rfl) rfl
 have hc : cuts (body p ++ s) p.cells.length 14 252 = some p.cells := by
  apply cuts_tab
  ·intro i hi
   rw [hb, List.getElem?_append_right (by rw [hd_len]; omega), hd_len, show 14 + i - 14 = i by omega, List.getElem?_append_left (by rw [tab_len]; exact hi)]
  ·have e : hd p ++ (tab 252 p.cells ++ (List.replicate (238 - room p.cells) 0 ++ (rev p.cells ++ s))) = (hd p ++ (tab 252 p.cells ++ List.replicate (238 - room p.cells) 0)) ++ (rev p.cells ++ s) := by simp
   have hl : (hd p ++ (tab 252 p.cells ++ List.replicate (238 - room p.cells) (0 : UInt8))).length = 252 - tot p.cells := by
    simp only [List.length_append, hd_len, tab_len, List.length_replicate]; unfold room; omega
   rw [hb, e, ← hl, List.drop_left, ← rev_len p.cells, List.take_left]
  ·omega
  ·omega
 unfold told
 rw [g1, if_neg (by omega), hc, g0, r2, r6, r10]
 simp only [Option.map_some]
 congr 1
 apply pg_ext <;> simp <;> omega
theorem got_body (p : Pg) (hr : room p.cells ≤ 236) (hg : PgOk p) (s : List UInt8) : got (body p ++ s) = some p := by
 unfold got
 rw [told_body p hr hg s]
 simp only [Option.bind_some]
 have h1 : err p = 0 := by unfold err; rw [if_pos hr, if_pos hg]
 rw [if_pos ⟨h1, by rw [← body_len p hr, List.take_left]⟩]
theorem got_out {l : List UInt8} {p : Pg} (h : got l = some p) : room p.cells ≤ 236 ∧ PgOk p ∧ body p = l.take 252 := by
 unfold got at h
 cases ht : told l with
 | none => rw [ht] at h; cases h
 | some q =>
  rw [ht] at h
  simp only [Option.bind_some] at h
  split at h
  ·rename_i hc
   injection h with h
   subst h
   obtain ⟨he, hb⟩ := hc
   unfold err at he
   by_cases hr : room q.cells ≤ 236
   ·rw [if_pos hr] at he
    by_cases hg : PgOk q
    ·exact ⟨hr, hg, hb⟩
    ·rw [if_neg hg] at he; cases he
   ·rw [if_neg hr] at he; cases he
  ·cases h
theorem rd4_page (p : Pg) (hr : room p.cells ≤ 236) : rd4 (page p) 252 = sum (body p) := by
 unfold page
 exact rd4_be4 _ (body p) [] _ 252 (sum_lt _) (by simp) (body_len p hr)
end Go.Proofs.YtpidnkfcccboaaaGreat.PagePlain
namespace Go.Proofs.YtpidnkfcccboaaaGreat.SumRefPlain
open SumPlain

/-- the message's bits, noughts behind -/
def mb (l : List UInt8) (j : Nat) : Bool := (bitsL l)[j]?.getD false
/-- the register behind i bits -/
def reg (l : List UInt8) (i : Nat) : Nat := cb full ((bitsL l).take i)
/-- all bits behind i steps of the division -/
def st (l : List UInt8) (i j : Nat) : Bool := if j < i then false else xor ((reg l i).testBit (j - i)) (mb l j)
def pw : List Nat := [32, 26, 23, 22, 16, 12, 11, 10, 8, 7, 5, 4, 2, 1, 0]
def hit (i : Nat) : Nat → Nat → Bool
 | 0, _ => false
 | k + 1, j => xor (hit i k j) (decide (i + 32 - pw[k]?.getD 0 = j))
end Go.Proofs.YtpidnkfcccboaaaGreat.SumRefPlain
