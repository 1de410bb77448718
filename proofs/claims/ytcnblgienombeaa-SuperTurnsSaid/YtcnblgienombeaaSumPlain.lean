/- Plain facts on sums: a division of polynomials over 0 and 1, bit by bit and byte by byte. No Go. -/
namespace Go.Proofs.Ytcnblgienombeaa.SumPlain

def D : Nat := 3988292384
/-- one bit of the division -/
def step1 (r : Nat) : Nat := (r >>> 1) ^^^ (if r.testBit 0 then D else 0)
def iter : Nat → Nat → Nat
  | 0, r => r
  | n + 1, r => iter n (step1 r)
theorem iter_succ (n r : Nat) : iter (n + 1) r = iter n (step1 r) := rfl
theorem iter_last (n r : Nat) : iter (n + 1) r = step1 (iter n r) := by
  induction n generalizing r with
  | zero => rfl
  | succ n ih => rw [iter_succ, ih]; rfl
theorem D_lt : D < 2 ^ 32 := by decide
theorem step1_lt {r : Nat} (h : r < 2 ^ 32) : step1 r < 2 ^ 32 := by
  unfold step1
  apply Nat.xor_lt_two_pow
  · rw [Nat.shiftRight_eq_div_pow]; omega
  · split
    · exact D_lt
    · decide
theorem iter_lt {r : Nat} (n : Nat) (h : r < 2 ^ 32) : iter n r < 2 ^ 32 := by
  induction n generalizing r with
  | zero => exact h
  | succ n ih => exact ih (step1_lt h)
theorem xor_swap (a b c d : Nat) : (a ^^^ b) ^^^ (c ^^^ d) = (a ^^^ c) ^^^ (b ^^^ d) := by
  rw [Nat.xor_assoc, Nat.xor_assoc, ← Nat.xor_assoc b c d, Nat.xor_comm b c, Nat.xor_assoc c b d]
theorem step1_xor (a b : Nat) : step1 (a ^^^ b) = step1 a ^^^ step1 b := by
  unfold step1
  rw [Nat.shiftRight_xor_distrib, xor_swap, Nat.testBit_xor]
  congr 1
  cases a.testBit 0 <;> cases b.testBit 0 <;> simp
theorem iter_xor (n a b : Nat) : iter n (a ^^^ b) = iter n a ^^^ iter n b := by
  induction n generalizing a b with
  | zero => rfl
  | succ n ih => rw [iter_succ, step1_xor, ih]; rfl
theorem step1_zero : step1 0 = 0 := by decide
theorem iter_zero (n : Nat) : iter n 0 = 0 := by
  induction n with
  | zero => rfl
  | succ n ih => rw [iter_succ, step1_zero, ih]
theorem step1_double (q : Nat) : step1 (2 * q) = q := by
  unfold step1
  have h1 : (2 * q).testBit 0 = false := by simp [Nat.testBit_zero]
  rw [h1, Nat.shiftRight_eq_div_pow]
  simp
theorem iter8_shift (q : Nat) : iter 8 (256 * q) = q := by
  have h : 256 * q = 2 * (2 * (2 * (2 * (2 * (2 * (2 * (2 * q))))))) := by omega
  rw [h]
  simp only [iter, step1_double]
theorem step1_ne {r : Nat} (h : r < 2 ^ 32) (hz : r ≠ 0) : step1 r ≠ 0 := by
  unfold step1
  by_cases hb : r.testBit 0 = true
  · rw [if_pos hb]
    intro e
    have h1 : r >>> 1 = D := by
      have := congrArg (· ^^^ D) e
      simpa [Nat.xor_assoc] using this
    rw [Nat.shiftRight_eq_div_pow] at h1
    have : D = 3988292384 := rfl
    omega
  · rw [if_neg hb, Nat.shiftRight_eq_div_pow]
    simp [Nat.testBit_zero] at hb
    simp
    omega
theorem iter_ne (n : Nat) {r : Nat} (h : r < 2 ^ 32) (hz : r ≠ 0) : iter n r ≠ 0 := by
  induction n generalizing r with
  | zero => exact hz
  | succ n ih => exact ih (step1_lt h) (step1_ne h hz)

/-- what is left of a byte, as the table has it -/
def tab (i : Nat) : Nat := iter 8 i
theorem tab_lt (i : Nat) (h : i < 256) : tab i < 2 ^ 32 := iter_lt 8 (by omega)
def stepB (r : Nat) (x : UInt8) : Nat := (r / 256) ^^^ tab ((r % 256) ^^^ x.toNat)
theorem byte_xor_lt (r : Nat) (x : UInt8) : (r % 256) ^^^ x.toNat < 256 := Nat.xor_lt_two_pow (n := 8) (by omega) (UInt8.toNat_lt x)
theorem split8 (r : Nat) : r = (256 * (r / 256)) ^^^ (r % 256) := by
  have h := Nat.div_add_mod r 256
  conv => lhs; rw [← h]
  apply Nat.eq_of_testBit_eq
  intro i
  have e : 256 * (r / 256) + r % 256 = 2 ^ 8 * (r / 256) + r % 256 := rfl
  have e2 : 256 * (r / 256) = 2 ^ 8 * (r / 256) := rfl
  rw [e, Nat.testBit_two_pow_mul_add _ (show r % 256 < 2 ^ 8 by omega), Nat.testBit_xor, e2, Nat.testBit_two_pow_mul]
  by_cases hi : i < 8
  · rw [if_pos hi]; simp [show ¬ 8 ≤ i by omega]
  · rw [if_neg hi]
    have : (r % 256).testBit i = false := Nat.testBit_lt_two_pow (Nat.lt_of_lt_of_le (show r % 256 < 2 ^ 8 by omega) (Nat.pow_le_pow_right (by omega) (by omega)))
    simp [this, show 8 ≤ i by omega]
theorem stepB_eq (r : Nat) (x : UInt8) : stepB r x = iter 8 (r ^^^ x.toNat) := by
  conv => rhs; rw [split8 r]
  rw [Nat.xor_assoc, iter_xor, iter8_shift]
  rfl
theorem stepB_lt {r : Nat} (x : UInt8) (h : r < 2 ^ 32) : stepB r x < 2 ^ 32 := by
  rw [stepB_eq]
  exact iter_lt 8 (Nat.xor_lt_two_pow h (by have := UInt8.toNat_lt x; omega))
/-- the rest when bytes follow what left r -/
def crc (r : Nat) (l : List UInt8) : Nat := l.foldl stepB r
theorem crc_append (r : Nat) (a b : List UInt8) : crc r (a ++ b) = crc (crc r a) b := by simp [crc]
theorem crc_cons (r : Nat) (x : UInt8) (b : List UInt8) : crc r (x :: b) = crc (stepB r x) b := rfl
theorem crc_lt {r : Nat} (l : List UInt8) (h : r < 2 ^ 32) : crc r l < 2 ^ 32 := by
  induction l generalizing r with
  | nil => exact h
  | cons x l ih => exact ih (stepB_lt x h)
theorem stepB_xor (r s : Nat) (x y : UInt8) : stepB (r ^^^ s) (x ^^^ y) = stepB r x ^^^ stepB s y := by
  rw [stepB_eq, stepB_eq, stepB_eq, UInt8.toNat_xor, ← iter_xor, xor_swap]
theorem crc_xor (r s : Nat) (a b : List UInt8) (h : a.length = b.length) : crc (r ^^^ s) (List.zipWith (· ^^^ ·) a b) = crc r a ^^^ crc s b := by
  induction a generalizing r s b with
  | nil => cases b with
    | nil => rfl
    | cons => simp at h
  | cons x a ih => cases b with
    | nil => simp at h
    | cons y b => rw [List.zipWith_cons_cons, crc_cons, stepB_xor, ih _ _ _ (by simpa using h)]; rfl
def full : Nat := 4294967295
/-- the sum of bytes -/
def sum (l : List UInt8) : Nat := crc full l ^^^ full
theorem full_lt : full < 2 ^ 32 := by decide
theorem sum_lt (l : List UInt8) : sum l < 2 ^ 32 := Nat.xor_lt_two_pow (crc_lt l full_lt) full_lt
theorem sum_xor (a b : List UInt8) (h : a.length = b.length) : sum (List.zipWith (· ^^^ ·) a b) ^^^ sum a = crc 0 b := by
  have e : full = full ^^^ 0 := by decide
  unfold sum
  rw [xor_swap, Nat.xor_self, Nat.xor_zero]
  have h1 : crc full (List.zipWith (· ^^^ ·) a b) = crc full a ^^^ crc 0 b := by
    conv => lhs; rw [e]
    exact crc_xor _ _ _ _ h
  rw [h1, Nat.xor_comm (crc full a), Nat.xor_assoc, Nat.xor_self, Nat.xor_zero]
theorem sum_nil : sum [] = 0 := by decide

/-! bit by bit -/
def cb : Nat → List Bool → Nat
  | r, [] => r
  | r, b :: p => cb (step1 (r ^^^ b.toNat)) p
theorem cb_append (r : Nat) (p q : List Bool) : cb r (p ++ q) = cb (cb r p) q := by
  induction p generalizing r with
  | nil => rfl
  | cons b p ih => exact ih _
def ofBits : List Bool → Nat
  | [] => 0
  | b :: p => b.toNat ^^^ (2 * ofBits p)
theorem ofBits_lt (p : List Bool) : ofBits p < 2 ^ p.length := by
  induction p with
  | nil => decide
  | cons b p ih =>
    unfold ofBits
    apply Nat.xor_lt_two_pow
    · have : b.toNat ≤ 1 := Bool.toNat_le b
      have : 2 ≤ 2 ^ (p.length + 1) := by rw [Nat.pow_succ]; have := Nat.two_pow_pos p.length; omega
      simp only [List.length_cons]; omega
    · simp only [List.length_cons, Nat.pow_succ]; omega
theorem cb_eq (r : Nat) (p : List Bool) : cb r p = iter p.length (r ^^^ ofBits p) := by
  induction p generalizing r with
  | nil => simp [cb, ofBits, iter]
  | cons b p ih =>
    rw [cb, ih, List.length_cons, iter_succ, ofBits, ← Nat.xor_assoc, step1_xor (r ^^^ b.toNat), step1_double]
theorem cb_zero (n : Nat) (r : Nat) : cb r (List.replicate n false) = iter n r := by
  induction n generalizing r with
  | zero => rfl
  | succ n ih => simp only [List.replicate_succ, cb, Bool.toNat_false, Nat.xor_zero, ih]; rfl
def bitsB (x : UInt8) : List Bool := (List.range 8).map fun k => x.toNat.testBit k
theorem ofBits_byte_all : ∀ x : Fin 256, ofBits ((List.range 8).map fun k => x.val.testBit k) = x.val := by decide +kernel
theorem ofBits_byte (x : UInt8) : ofBits (bitsB x) = x.toNat := ofBits_byte_all ⟨x.toNat, UInt8.toNat_lt x⟩
theorem bitsB_len (x : UInt8) : (bitsB x).length = 8 := by simp [bitsB]
theorem cb_byte (r : Nat) (x : UInt8) : cb r (bitsB x) = stepB r x := by rw [cb_eq, stepB_eq, bitsB_len, ofBits_byte]
def bitsL (l : List UInt8) : List Bool := l.flatMap bitsB
theorem bitsL_nil : bitsL [] = [] := rfl
theorem bitsL_cons (x : UInt8) (l : List UInt8) : bitsL (x :: l) = bitsB x ++ bitsL l := by simp [bitsL]
theorem bitsL_append (a b : List UInt8) : bitsL (a ++ b) = bitsL a ++ bitsL b := by simp [bitsL]
theorem bitsL_len (l : List UInt8) : (bitsL l).length = 8 * l.length := by
  induction l with
  | nil => rfl
  | cons x l ih => rw [bitsL_cons, List.length_append, ih, bitsB_len, List.length_cons]; omega
theorem cb_bytes (r : Nat) (l : List UInt8) : cb r (bitsL l) = crc r l := by
  induction l generalizing r with
  | nil => rfl
  | cons x l ih => rw [bitsL_cons, cb_append, cb_byte, ih]; rfl
theorem bitsB_get (x : UInt8) (k : Nat) (hk : k < 8) : (bitsB x)[k]? = some (x.toNat.testBit k) := by simp [bitsB, hk]
theorem bitsL_get (l : List UInt8) (i : Nat) (h : i / 8 < l.length) : (bitsL l)[i]? = some (l[i / 8].toNat.testBit (i % 8)) := by
  induction l generalizing i with
  | nil => simp at h
  | cons x l ih =>
    rw [bitsL_cons]
    by_cases hi : i < 8
    · rw [List.getElem?_append_left (by rw [bitsB_len]; exact hi), bitsB_get x i hi]
      have h0 : i / 8 = 0 := by omega
      have h1 : i % 8 = i := by omega
      simp [h0, h1]
    · rw [List.getElem?_append_right (by rw [bitsB_len]; omega), bitsB_len]
      have h2 : (i - 8) / 8 = i / 8 - 1 := by omega
      have h3 : (i - 8) % 8 = i % 8 := by omega
      have h4 : i / 8 = (i / 8 - 1) + 1 := by omega
      have hl : i / 8 - 1 < l.length := by simp at h; omega
      rw [ih (i - 8) (by omega)]
      simp only [h2, h3]
      congr 2
      have : (x :: l)[i / 8]? = l[i / 8 - 1]? := by rw [h4]; simp
      rw [List.getElem?_eq_getElem h, List.getElem?_eq_getElem hl] at this
      injection this with this
      rw [this]
theorem ofBits_zero (p : List Bool) (h : ofBits p = 0) : ∀ b ∈ p, b = false := by
  induction p with
  | nil => simp
  | cons b p ih =>
    unfold ofBits at h
    have h0 := congrArg (fun n => n.testBit 0) h
    simp [Nat.testBit_zero] at h0
    have hb : b = false := by cases b <;> simp_all
    subst hb
    have h2 : ofBits p = 0 := by
      have : 2 * ofBits p = 0 := by simpa using h
      omega
    intro c hc
    rcases List.mem_cons.1 hc with rfl | hc
    · rfl
    · exact ih h2 c hc
theorem ofBits_falses (p : List Bool) (h : ∀ b ∈ p, b = false) : ofBits p = 0 := by
  induction p with
  | nil => rfl
  | cons b p ih => unfold ofBits; rw [h b (by simp), ih (fun c hc => h c (by simp [hc]))]; rfl
/-- bits that are set within 32 in a row alone leave a rest -/
theorem cb_window (m k : Nat) (p : List Bool) (hp : p.length ≤ 32) : cb 0 (List.replicate m false ++ p ++ List.replicate k false) = 0 ↔ ∀ b ∈ p, b = false := by
  rw [cb_append, cb_append, cb_zero, cb_zero, iter_zero, cb_eq, Nat.zero_xor]
  have hlt : ofBits p < 2 ^ 32 := Nat.lt_of_lt_of_le (ofBits_lt p) (Nat.pow_le_pow_right (by omega) hp)
  constructor
  · intro h
    apply ofBits_zero
    by_cases hz : ofBits p = 0
    · exact hz
    · exact absurd h (iter_ne _ (iter_lt _ hlt) (iter_ne _ hlt hz))
  · intro h
    rw [ofBits_falses p h, iter_zero, iter_zero]
/-- bytes that differ just where bits of a number are set, from a bit on -/
theorem sum_differs (a b : List UInt8) (at_ v : Nat) (hl : b.length = a.length) (hat : at_ < 8 * a.length)
    (hd : ∀ i (hi : i / 8 < a.length), (b[i / 8]'(by omega)).toNat.testBit (i % 8) = xor (a[i / 8].toNat.testBit (i % 8)) (decide (at_ ≤ i ∧ i < at_ + 32) && v.testBit (i - at_))) :
    sum b = sum a ↔ ∀ k, k < 32 → at_ + k < 8 * a.length → v.testBit k = false := by
  have h1 : sum b ^^^ sum a = crc 0 (List.zipWith (· ^^^ ·) a b) := by
    have e : b = List.zipWith (· ^^^ ·) a (List.zipWith (· ^^^ ·) a b) := by
      apply List.ext_getElem
      · simp [hl]
      · intro i h1 h2
        simp [← UInt8.xor_assoc]
    have := sum_xor a (List.zipWith (· ^^^ ·) a b) (by simp [hl])
    rw [← e] at this
    exact this
  have h2 : sum b = sum a ↔ crc 0 (List.zipWith (· ^^^ ·) a b) = 0 := by
    rw [← h1]
    constructor
    · intro e; rw [e, Nat.xor_self]
    · intro e
      have := congrArg (· ^^^ sum a) e
      simpa [Nat.xor_assoc] using this
  have hzl : (List.zipWith (· ^^^ ·) a b).length = a.length := by simp [hl]
  let m := min 32 (8 * a.length - at_)
  have h3 : bitsL (List.zipWith (· ^^^ ·) a b) = List.replicate at_ false ++ (List.range m).map (fun k => v.testBit k) ++ List.replicate (8 * a.length - at_ - m) false := by
    apply List.ext_getElem?
    intro i
    by_cases hi : i < 8 * a.length
    · rw [bitsL_get _ i (by rw [hzl]; omega)]
      have hx : (List.zipWith (· ^^^ ·) a b)[i / 8]'(by rw [hzl]; omega) = a[i / 8]'(by omega) ^^^ b[i / 8]'(by omega) := by simp
      rw [hx, UInt8.toNat_xor, Nat.testBit_xor, hd i (by omega)]
      by_cases c1 : i < at_
      · rw [List.append_assoc, List.getElem?_append_left (by simpa using c1), List.getElem?_replicate, if_pos c1]
        simp [show ¬ at_ ≤ i by omega]
      · by_cases c2 : i < at_ + m
        · rw [List.append_assoc, List.getElem?_append_right (by simp; omega), List.getElem?_append_left (by simp; omega)]
          simp only [List.length_replicate, List.getElem?_map]
          rw [List.getElem?_range (by omega)]
          have : decide (at_ ≤ i ∧ i < at_ + 32) = true := by simp; omega
          rw [this]
          simp
        · have hm : m = 32 := by omega
          rw [List.getElem?_append_right (by simp; omega), List.getElem?_replicate]
          simp only [List.length_append, List.length_replicate, List.length_map, List.length_range]
          rw [if_pos (by omega)]
          have : decide (at_ ≤ i ∧ i < at_ + 32) = false := by simp; omega
          rw [this]
          simp
    · rw [List.getElem?_eq_none (by rw [bitsL_len, hzl]; omega), List.getElem?_eq_none]
      simp only [List.length_append, List.length_replicate, List.length_map, List.length_range]
      omega
  rw [h2, ← cb_bytes, h3, cb_window _ _ _ (by simp; omega)]
  constructor
  · intro h k hk hk2
    exact h _ (List.mem_map.2 ⟨k, by simp; omega, rfl⟩)
  · intro h x hx
    obtain ⟨k, hk, rfl⟩ := List.mem_map.1 hx
    simp at hk
    exact h k (by omega) (by omega)
end Go.Proofs.Ytcnblgienombeaa.SumPlain
