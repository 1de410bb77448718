/- FreeMem, FreeCheck, FreeFn, FreeFind, FreeSearch. -/
import Derived.Test.YtpidnkfcccboaaaGreatKFreePlain2
import Derived.Test.YtpidnkfcccboaaaGreatKPlumb
import Derived.Test.YtpidnkfcccboaaaGreatProg
import Derived.BigQuiet
import Derived.Deep.QuietTactic
import Derived.Handy
import Derived.Lib.Hide
import Derived.WalkLawsBesides
import Derived.WalkSpells
namespace Go.Proofs.YtpidnkfcccboaaaGreat.FreeMem
open Go.RowKit Base FreePlain

def fr (l : Fs) : List Value := l.flatMap fun p => [.int .i64 p.1, .int .i64 p.2]
theorem fr_cons (p : Int × Int) (l : Fs) : fr (p :: l) = .int .i64 p.1 :: .int .i64 p.2 :: fr l := rfl
theorem fr_append (a b : Fs) : fr (a ++ b) = fr a ++ fr b := by simp [fr]
theorem fr_len : ∀ l : Fs, (fr l).length = l.length * 2
 | [] => rfl
 | p :: l => by rw [fr_cons]; simp [fr_len l]; omega
theorem fr_one : ∀ l : Fs, ∀ u ∈ fr l, u.oneCell' = true
 | [], _, h => by cases h
 | p :: l, u, h => by
  rw [fr_cons] at h
  rcases List.mem_cons.1 h with rfl | h
  ·rfl
  ·rcases List.mem_cons.1 h with rfl | h
   ·rfl
   ·exact fr_one l u h
theorem fr_at : ∀ {l : Fs} {k : Nat} {p : Int × Int}, l[k]? = some p → (fr l)[k * 2]? = some (.int .i64 p.1) ∧ (fr l)[k * 2 + 1]? = some (.int .i64 p.2)
 | [], _, _, h => by simp at h
 | q :: l, 0, p, h => by
  simp at h
  subst h
  exact ⟨rfl, rfl⟩
 | q :: l, k + 1, p, h => by
  obtain ⟨h1, h2⟩ := fr_at (l := l) (k := k) (p := p) (by simpa using h)
  have e : (k + 1) * 2 = k * 2 + 2 := by omega
  rw [fr_cons, e]
  exact ⟨by simpa using h1, by simpa using h2⟩
/-- an item's two cells -/
theorem row_at {w : World} {B : Nat} {A : Option Addr} {l : Fs} (h : Row w B A (fr l)) (k : Nat) (hk : k < l.length) : ∃ ad, A = some ad ∧ ad.block < B ∧ w.cell? (ad.add (k * 2)) = some (.int .i64 (l[k]).1) ∧ w.cell? ⟨(ad.add (k * 2)).block, (ad.add (k * 2)).off + 1, none⟩ = some (.int .i64 (l[k]).2) := by
 obtain ⟨h1, h2⟩ := fr_at (l := l) (k := k) (List.getElem?_eq_getElem hk)
 obtain ⟨ad, e, hb, c1⟩ := h _ _ h1
 obtain ⟨ad', e', _, c2⟩ := h _ _ h2
 rw [e] at e'
 injection e' with e'
 subst e'
 refine ⟨ad, e, hb, c1, ?_⟩
 have : (⟨(ad.add (k * 2)).block, (ad.add (k * 2)).off + 1, none⟩ : Addr) = ad.add (k * 2 + 1) := by
  by_cases q : k * 2 = 0
  ·rw [q]; simp [Addr.add]
  ·simp [Addr.add, q, Nat.add_assoc]
 rw [this]
 exact c2
theorem info_f : (Tryz.prog.info? 66).map (fun i => (i.zero, i.size, i.bytes)) = some (some (.agg #[.int .i64 0, .int .i64 0]), 2, 16) := by kernel_rfl
theorem under_f : Tryz.prog.underlying 31 = some (.slice 66) := Tryz.underlying31
/-- a list of the call's own -/
def OwnF (w : World) (base : Nat) (A : Option Addr) (c : Nat) (l : Fs) : Prop := w.ownsRow base 66 2 (.slice A l.length c) l.length (fr l)
section
variable {w w' : World} {base B c : Nat} {A : Option Addr} {l : Fs}
theorem OwnF.nil (w : World) (base : Nat) : OwnF w base none 0 [] := World.ownsRow_nil w base _ 2
theorem OwnF.empty (w : World) (hb : base ≤ w.heap.size) : OwnF (w.alloc (.cells #[] 66)) base (some ⟨w.heap.size, 0, none⟩) 0 [] :=
 ⟨rfl, .inr ⟨w.heap.size, 0, #[], rfl, hb, heap_alloc_new w _, Nat.le_refl _, by simp [maxLen], rfl, rfl⟩⟩
theorem OwnF.block (h : OwnF w base A c l) : ∀ k, (Value.slice A l.length c).ownBlock = some k → base ≤ k ∧ k < w.heap.size := World.ownsRow.lt h
theorem OwnF.below (h : OwnF w base A c l) {w0 : World} (hb : Below B w0 w) (hg : w.grownBy w' (Value.slice A l.length c).ownBlock) (hB : B ≤ base) (hs : base ≤ w.heap.size) : Below B w0 w' :=
 hb.grown hg (Nat.le_trans hB hs) fun k hk => Nat.le_trans hB (h.block k hk).1
theorem OwnF.later (h : OwnF w base A c l) (hb : Below w.heap.size w w') : OwnF w' base A c l :=
 World.ownsRow.kept h (row := none) ⟨hb.os, hb.tape, hb.output, hb.size, fun k hk _ => hb.block k hk⟩ (by
  cases A with
  | none => exact .inl rfl
  | some a => exact .inr (by simp [Value.ownBlock]))
theorem OwnF.cap (h : OwnF w base A c l) : l.length ≤ c ∧ c ≤ maxLen := by
 rcases h.2 with ⟨h1, h2⟩ | ⟨g, cap, cur, h1, _, _, h2, h3, _⟩
 ·injection h1 with _ _ h3; subst h3; exact ⟨by omega, by simp [maxLen]⟩
 ·injection h1 with _ _ h4; subst h4; exact ⟨h2, h3⟩
theorem OwnF.row (h : OwnF w base A c l) : Row w w.heap.size A (fr l) := fun k v hv => by
 have hk : k < (fr l).length := by
  rcases Nat.lt_or_ge k (fr l).length with h1 | h1
  ·exact h1
  ·rw [List.getElem?_eq_none h1] at hv; cases hv
 rw [fr_len] at hk
 obtain ⟨g, cap, e1, _, hlt⟩ := World.ownsRow.form h (by omega)
 have hA : A = some ⟨g, 0, none⟩ := by injection e1
 subst hA
 exact ⟨_, rfl, hlt, World.ownsRow.cells h (g := g) rfl k v hv⟩
set_option maxRecDepth 100000 in
/-- append(own, xs...) -/
theorem run_append_f (h : OwnF w base A c l) {A2 : Option Addr} {c2 n m k : Nat} {news : Fs} (hn : n = l.length) (hm : m = news.length) (hk : n + m = k) (hr : Row w B A2 (fr news)) (hl : k ≤ 1000000) (hbase : base ≤ w.heap.size) :
  ∃ A' c' w', (Builtin.append_ #[31, 31] 31 #[.slice A n c, .slice A2 m c2]).run Tryz.prog w = .ok (.slice A' k c') w' ∧ OwnF w' base A' c' (l ++ news) ∧ w.grownBy w' (Value.slice A n c).ownBlock := by
 subst hn hm hk
 obtain ⟨i, i1, i2, i3, i4⟩ := info_parts info_f
 cases A2 with
 | none =>
  have h0 : news = [] := by
   cases news with
   | nil => rfl
   | cons x l => obtain ⟨ad, e, _⟩ := hr.get 0 (by rw [fr_len]; simp); cases e
  subst h0
  refine ⟨A, c, w, ?_, by simpa using h, World.grownBy.refl w _⟩
  rcases h.2 with ⟨h1, h2⟩ | ⟨g, cap, cur, h1, _, _, hnc, _⟩
  ·injection h1 with h3 h4 h5
   subst h3 h5
   obtain rfl : l = [] := List.eq_nil_of_length_eq_zero h2
   simp [Builtin.append_, run_underlying under_f, sizeOf, typeInfo, i1, Builtin.lenOf, Builtin.firstCells]
  ·injection h1 with h3 h4 h5
   subst h3 h5
   simp [Builtin.append_, run_underlying under_f, sizeOf, typeInfo, i1, Builtin.lenOf, Builtin.firstCells, hnc, storeCells]
 | some ad =>
  have hc : ∀ j u, (fr news)[j]? = some u → w.cell? (ad.add j) = some u := fun j u hu => by
   obtain ⟨ad', e, _, h⟩ := hr j u hu
   injection e with e
   subst e
   exact h
  obtain ⟨v', w', hrun, h2, h3, _, _⟩ := run_append_own_at (P := Tryz.prog) w base 31 31 66 i _ 2 16 under_f i1 i2 i3 i4 (by simp [Value.cells]) (by omega) _ _ (fr l) h ad news.length c2 (fr news) (fr_len _) hc (fr_one _) (by simp only [maxLen]; omega) (by omega) hbase
  have hform : ∃ A' c', v' = .slice A' (l.length + news.length) c' := by
   rcases h2.2 with ⟨h4, h5⟩ | ⟨g, cap, cur, h4, _⟩
   ·exact ⟨none, 0, by rw [h4, h5]⟩
   ·exact ⟨_, _, h4⟩
  obtain ⟨A', c', rfl⟩ := hform
  exact ⟨A', c', w', hrun, by unfold OwnF; rw [List.length_append, fr_append]; exact h2, h3⟩
end
/-- a new row of one item -/
theorem row_item (w : World) (p : Int × Int) : Row (w.alloc (.cells #[.int .i64 p.1, .int .i64 p.2] 66)) (w.alloc (.cells #[.int .i64 p.1, .int .i64 p.2] 66)).heap.size (some ⟨w.heap.size, 0, none⟩) (fr [p]) := (row_of_block (heap_alloc_new w (.cells #[.int .i64 p.1, .int .i64 p.2] 66))).more (by simp)
theorem al (w : World) (o : Obj) : Below w.heap.size w (w.alloc o) := (Below.refl _ _).alloc (Nat.le_refl _) _
set_option maxRecDepth 100000 in
theorem wpList_append_run {P : Program} {w : World} {ops : Array Oper} {rest : List Oper} {o : Oper} {a : Act} {Q : Exit → Act → World → Prop} (hgd : o.guard = none) (s x : Operand) (t u : TypeId)
  (hop : o.op = Op.call { callee := Callee.builtin Builtin.append, args := #[s, x], argTypes := #[t, u] }) {vs vx v : Value} {w' : World} (hs : a.eval s = vs) (hx : a.eval x = vx)
  (hrun : (Builtin.append_ #[t, u] o.type #[vs, vx]).run P w = .ok v w') (h : wpList P ops Q rest (a.put o.dst v) w') : wpList P ops Q (o :: rest) a w := by
 refine wpList_plain hgd fun K hK => ?_
 unfold Oper.wp
 simp [execOp, hop, resolve, invoke, builtin, hs, hx, hrun, Result.andThen]
 exact hK _ _ h
end Go.Proofs.YtpidnkfcccboaaaGreat.FreeMem
namespace Go.Proofs.YtpidnkfcccboaaaGreat.FreeCheck
open Go.RowKit Base FreePlain FreeMem

/-- item by item -/
def ck (z : Int) : Fs → Bool
 | [] => true
 | p :: l => decide (z < p.1) && decide (p.1 ≤ 4294967295) && decide (0 ≤ p.2) && decide (p.2 ≤ 4294967295) && ck p.1 l
theorem ck_iff : ∀ {l : Fs} {z : Int}, ck z l = true ↔ (∀ p ∈ l, z < p.1 ∧ p.1 ≤ 4294967295 ∧ 0 ≤ p.2 ∧ p.2 ≤ 4294967295) ∧ Rise l
 | [], z => by simp [ck, Rise]
 | p :: l, z => by
  simp only [ck, Bool.and_eq_true, decide_eq_true_eq, ck_iff (l := l), rise_cons]
  constructor
  ·rintro ⟨⟨⟨⟨h1, h2⟩, h3⟩, h4⟩, h5, h6⟩
   refine ⟨fun q hq => ?_, fun q hq => (h5 q hq).1, h6⟩
   rcases List.mem_cons.1 hq with rfl | hq
   ·exact ⟨h1, h2, h3, h4⟩
   ·have := h5 q hq
    exact ⟨by omega, this.2⟩
  ·rintro ⟨h1, h2, h3⟩
   obtain ⟨a1, a2, a3, a4⟩ := h1 p (by simp)
   exact ⟨⟨⟨⟨a1, a2⟩, a3⟩, a4⟩, fun q hq => ⟨h2 q hq, (h1 q (by simp [hq])).2⟩, h3⟩
theorem ck_gd {l : Fs} : ck 1 l = true ↔ Gd l := by
 rw [ck_iff]
 constructor
 ·rintro ⟨h1, h2⟩
  exact ⟨fun p hp => by obtain ⟨a, b, c, d⟩ := h1 p hp; exact ⟨by omega, b, c, d⟩, h2⟩
 ·rintro ⟨h1, h2⟩
  exact ⟨fun p hp => by obtain ⟨a, b, c, d⟩ := h1 p hp; exact ⟨by omega, b, c, d⟩, h2⟩
set_option maxRecDepth 100000 in
set_option maxHeartbeats 3200000 in
theorem check_any (W : World) (A : Option Addr) (n c : Nat) (l : Fs) (b : Bool) (hn : n = l.length) (hr : Row W W.heap.size A (fr l)) (hl : l.length ≤ 100000) (hb : b = true ↔ Gd l) :
  Calls Tryz.prog 101 #[.slice A n c] W fun e w' => e = .returned (.bool b) ∧ Below W.heap.size W w' := by
 subst hn
 have hb2 : ck 1 l = b := Bool.eq_iff_iff.2 (ck_gd.trans hb.symm)
 have HR := Lib.hid hr
 have HB := Lib.hid hb2
 clear hr hb hb2
 go_enter Tryz.func101, Tryz.ntmps101
 go_wp2_with fail
 go_loopw [3, 5, 8] (fun z _ i wr => ∃ (k : Nat) (y : Int), k ≤ l.length ∧ z = .int .i64 y ∧ i = .int .i64 k ∧ ck y (l.drop k) = b ∧ Below W.heap.size W wr) (fun _ _ i _ => l.length - (intOf i).toNat)
 case atStart => exact ⟨0, 1, by omega, rfl, rfl, HB.out, Below.refl _ _⟩
 case round =>
  obtain ⟨k, y, hk, rfl, rfl, hpre, hbw⟩ := hrel
  have HP := Lib.hid hpre
  clear hpre
  by_cases hlt : k < l.length
  ·obtain ⟨ad, hA, hblk, hc1, hc2⟩ := row_at HR.out k hlt
   subst hA
   have cc1 := (hbw.cell (p := ad.add (k * 2)) (by rw [blk_add]; exact hblk)).trans hc1
   have cc2 := (hbw.cell (p := ⟨(ad.add (k * 2)).block, (ad.add (k * 2)).off + 1, none⟩) (by show (ad.add (k * 2)).block < _; rw [blk_add]; exact hblk)).trans hc2
   clear hc1 hc2
   have HD := Lib.hid (show (decide (y < (l[k]).1) && decide ((l[k]).1 ≤ 4294967295) && decide (0 ≤ (l[k]).2) && decide ((l[k]).2 ≤ 4294967295) && ck (l[k]).1 (l.drop (k + 1))) = b by
    have := HP.out
    rw [List.drop_eq_getElem_cons hlt] at this
    exact this)
   have hb2 := hbw.trans ((al wr (.cells #[.int .i64 (l[k]).1, .int .i64 (l[k]).2] 66)).mono hbw.size)
   clear HP
   generalize (l[k]).1 = p1 at *
   generalize (l[k]).2 = p2 at *
   have hHB := HB
   clear HB
   by_cases u1 : y < p1
   ·by_cases u2 : p1 ≤ 4294967295
    ·by_cases u3 : 0 ≤ p2
     ·by_cases u4 : p2 ≤ 4294967295
      ·have HQ := Lib.hid (show ck p1 (l.drop (k + 1)) = b by rw [← HD.out]; simp [u1, u2, u3, u4])
       have v1 : (p1 ≤ y) = False := by simp; omega
       have v2 : (4294967295 < p1) = False := by simp; omega
       have v3 : (p2 < 0) = False := by simp; omega
       have v4 : (4294967295 < p2) = False := by simp; omega
       clear u1 u2 u3 u4 HD
       go_wp2_with fail
       clear cc1 cc2 v1 v2 v3 v4
       go_roundw
       case rel => exact ⟨k + 1, p1, by omega, rfl, by go_num, HQ.out, hb2⟩
       case measure => simp [intOf]; omega
      ·have HQ := Lib.hid (show b = false by rw [← HD.out]; simp [u4])
       have v1 : (p1 ≤ y) = False := by simp; omega
       have v2 : (4294967295 < p1) = False := by simp; omega
       have v3 : (p2 < 0) = False := by simp; omega
       have v4 : (4294967295 < p2) = True := by simp; omega
       clear u1 u2 u3 u4 HD
       go_wp2_with fail
       go_ret
       exact ⟨ret_bool HQ.out.symm, hb2⟩
     ·have HQ := Lib.hid (show b = false by rw [← HD.out]; simp [u3])
      have v1 : (p1 ≤ y) = False := by simp; omega
      have v2 : (4294967295 < p1) = False := by simp; omega
      have v3 : (p2 < 0) = True := by simp; omega
      clear u1 u2 u3 HD
      go_wp2_with fail
      go_ret
      exact ⟨ret_bool HQ.out.symm, hb2⟩
    ·have HQ := Lib.hid (show b = false by rw [← HD.out]; simp [u2])
     have v1 : (p1 ≤ y) = False := by simp; omega
     have v2 : (4294967295 < p1) = True := by simp; omega
     clear u1 u2 HD
     go_wp2_with fail
     go_ret
     exact ⟨ret_bool HQ.out.symm, hb2⟩
   ·have HQ := Lib.hid (show b = false by rw [← HD.out]; simp [u1])
    have v1 : (p1 ≤ y) = True := by simp; omega
    clear u1 HD
    go_wp2_with fail
    go_ret
    exact ⟨ret_bool HQ.out.symm, hb2⟩
  ·have HQ := Lib.hid (show b = true by
    have := HP.out
    rw [List.drop_eq_nil_iff.2 (by omega)] at this
    exact this.symm)
   go_wp2_with fail
   go_ret
   exact ⟨ret_bool HQ.out.symm, hbw⟩
set_option maxRecDepth 100000 in
set_option maxHeartbeats 3200000 in
theorem rsame_any (W : World) (A B : Option Addr) (n c m d : Nat) (l q : Fs) (b : Bool) (hn : n = l.length) (hm : m = q.length) (hr : Row W W.heap.size A (fr l)) (hq : Row W W.heap.size B (fr q)) (hl : l.length ≤ 100000) (hb : b = true ↔ l = q) :
  Calls Tryz.prog 17 #[.slice A n c, .slice B m d] W fun e w' => e = .returned (.bool b) ∧ Below W.heap.size W w' := by
 subst hn hm
 have HR := Lib.hid hr
 have HQ := Lib.hid hq
 have HB := Lib.hid hb
 clear hr hq hb
 by_cases hlen : l.length = q.length
 ·have HLN := Lib.hid hlen
  have e1 : ((l.length : Int) != (q.length : Int)) = false := by simp [hlen]
  clear hlen
  go_enter Tryz.func17, Tryz.ntmps17
  go_wp2_with fail
  clear e1
  go_loopw [5] (fun i wr => ∃ k : Nat, k ≤ l.length ∧ i = .int .i64 k ∧ l.take k = q.take k ∧ Below W.heap.size W wr) (fun i _ => l.length - (intOf i).toNat)
  case atStart => exact ⟨0, by omega, rfl, rfl, Below.refl _ _⟩
  case round =>
   obtain ⟨k, hk, rfl, hpre, hbw⟩ := hrel
   have HP := Lib.hid hpre
   clear hpre
   by_cases hlt : k < l.length
   ·have hlt2 : k < q.length := by have := HLN.out; omega
    have hqi : ((k : Int) < (q.length : Int)) = True := by simp; omega
    obtain ⟨ad, hA, hblk, hc1, hc2⟩ := row_at HR.out k hlt
    obtain ⟨bd, hB, hblk2, hd1, hd2⟩ := row_at HQ.out k hlt2
    subst hA hB
    have cc1 := (hbw.cell (p := ad.add (k * 2)) (by rw [blk_add]; exact hblk)).trans hc1
    have cc2 := (hbw.cell (p := ⟨(ad.add (k * 2)).block, (ad.add (k * 2)).off + 1, none⟩) (by show (ad.add (k * 2)).block < _; rw [blk_add]; exact hblk)).trans hc2
    have dd1 := (hbw.cell (p := bd.add (k * 2)) (by rw [blk_add]; exact hblk2)).trans hd1
    have dd2 := (hbw.cell (p := ⟨(bd.add (k * 2)).block, (bd.add (k * 2)).off + 1, none⟩) (by show (bd.add (k * 2)).block < _; rw [blk_add]; exact hblk2)).trans hd2
    clear hc1 hc2 hd1 hd2
    have HT := Lib.hid (show l.take (k + 1) = q.take (k + 1) ↔ l[k] = q[k] by
     rw [List.take_succ_eq_append_getElem hlt, List.take_succ_eq_append_getElem hlt2, HP.out, List.append_cancel_left_eq]
     simp only [List.cons.injEq, and_true])
    by_cases he : l[k] = q[k]
    ·have HE := Lib.hid (HT.out.2 he)
     rw [he] at cc1 cc2
     have HX := Lib.hid he
     clear HT he
     generalize (q[k]).1 = p1 at *
     generalize (q[k]).2 = p2 at *
     go_wp2_with fail
     go_quiet (fail)
     go_wp2_with fail
     go_roundw
     case rel => exact ⟨k + 1, by omega, by go_num, HE.out, hbw.trans (Base.below_drewN _ _ _)⟩
     case measure => simp [intOf]; omega
    ·have HE := Lib.hid (show b = false from Bool.eq_false_iff.2 fun h => he (by have := HB.out.1 h; subst this; rfl))
     have hd : ((l[k]).1 = (q[k]).1) = False ∨ (l[k]).1 = (q[k]).1 ∧ ((l[k]).2 = (q[k]).2) = False := by
      by_cases h1 : (l[k]).1 = (q[k]).1
      ·refine .inr ⟨h1, ?_⟩
       simp only [eq_iff_iff, iff_false]
       exact fun h2 => he (Prod.ext h1 h2)
      ·exact .inl (by simpa using h1)
     clear HT he
     generalize (q[k]).1 = p1 at *
     generalize (q[k]).2 = p2 at *
     generalize (l[k]).1 = r1 at *
     generalize (l[k]).2 = r2 at *
     rcases hd with hd | ⟨rfl, hd⟩
     ·go_wp2_with fail
      go_quiet (fail)
      go_wp2_with fail
      go_ret
      exact ⟨ret_bool HE.out.symm, hbw.trans (Base.below_drewN _ _ _)⟩
     ·go_wp2_with fail
      go_quiet (fail)
      go_wp2_with fail
      go_ret
      exact ⟨ret_bool HE.out.symm, hbw.trans (Base.below_drewN _ _ _)⟩
   ·have HE := Lib.hid (show b = true from HB.out.2 (by
     have := HP.out
     rwa [List.take_of_length_le (by omega), List.take_of_length_le (by have := HLN.out; omega)] at this))
    go_wp2_with fail
    go_ret
    exact ⟨ret_bool HE.out.symm, hbw⟩
 ·have HE := Lib.hid (show b = false from Bool.eq_false_iff.2 fun h => hlen (by rw [HB.out.1 h]))
  have e1 : ((l.length : Int) != (q.length : Int)) = true := by simp; omega
  clear hlen
  go_enter Tryz.func17, Tryz.ntmps17
  go_wp2_with fail
  go_ret
  exact ⟨ret_bool HE.out.symm, Below.refl _ _⟩
end Go.Proofs.YtpidnkfcccboaaaGreat.FreeCheck
namespace Go.Proofs.YtpidnkfcccboaaaGreat.FreeFn
open Go.RowKit Base FreePlain FreeMem

def cmp (x y : Int) : Int := if x < y then -1 else if y < x then 1 else 0
theorem isnan_any (W : World) (x : Int) : Calls Tryz.prog 113 #[.int .i64 x] W fun e w' => e = .returned (.bool false) ∧ w' = W := by
 go_enter Tryz.func113, Tryz.ntmps113
 go_wp2
 go_ret
 exact ⟨ret_bool (by simp), rfl⟩
theorem compare_any (W : World) (x y : Int) : Calls Tryz.prog 86 #[.int .i64 x, .int .i64 y] W fun e w' => e = .returned (.int .i64 (cmp x y)) ∧ w' = W := by
 rcases Int.lt_trichotomy x y with h | h | h
 ·have h2 : cmp x y = -1 := by simp [cmp, h]
  rw [h2]
  go_enter Tryz.func86, Tryz.ntmps86
  go_wp2_with (go_at_call 113; refine (isnan_any _ _).mono ?_; rintro e w' ⟨rfl, rfl⟩)
  go_ret
  exact ⟨rfl, rfl⟩
 ·subst h
  have h2 : cmp x x = 0 := by simp [cmp]
  rw [h2]
  go_enter Tryz.func86, Tryz.ntmps86
  go_wp2_with (go_at_call 113; refine (isnan_any _ _).mono ?_; rintro e w' ⟨rfl, rfl⟩)
  go_ret
  exact ⟨rfl, rfl⟩
 ·have h1 : ¬ x < y := by omega
  have h2 : cmp x y = 1 := by simp [cmp, h, h1]
  rw [h2]
  go_enter Tryz.func86, Tryz.ntmps86
  go_wp2_with (go_at_call 113; refine (isnan_any _ _).mono ?_; rintro e w' ⟨rfl, rfl⟩)
  go_ret
  exact ⟨rfl, rfl⟩
/-- by their pages -/
theorem by_page (W : World) (p1 p2 g : Int) : Calls Tryz.prog 118 #[.agg #[.int .i64 p1, .int .i64 p2], .int .i64 g] W fun e w' => e = .returned (.int .i64 (cmp p1 g)) ∧ Below W.heap.size W w' := by
 have b1 := al W (.cells #[.int .i64 p1, .int .i64 p2] 66)
 go_enter Tryz.func118, Tryz.ntmps118
 go_wp2_with (go_at_call 86; refine (compare_any _ _ _).mono ?_; rintro e w' ⟨rfl, rfl⟩)
 go_ret
 exact ⟨rfl, b1⟩
/-- a test made of the oldest epoch -/
def clo (B : Nat) : Value := .func (.func 128) #[] #[.pointer (some ⟨B, 0, none⟩)]
theorem at_any (W : World) (o : Int) : Calls Tryz.prog 109 #[.int .i64 o] W fun e w' => e = .returned (clo W.heap.size) ∧ w' = W.alloc (.cells #[.int .i64 o] 3) := by
 have hmf : ∀ (fn : Fn) (first cap : Array Value) (w : World), (Instr.makeFunc fn first cap).run Tryz.prog w = .ok (.func fn first cap) w := fun _ _ _ _ => rfl
 go_enter Tryz.func109, Tryz.ntmps109
 go_wp2
 go_ret
 exact ⟨rfl, rfl⟩
/-- the test -/
theorem test_any (W : World) (B : Nat) (o p1 p2 : Int) (hB : B < W.heap.size) (hc : W.cell? ⟨B, 0, none⟩ = some (.int .i64 o)) :
  Calls Tryz.prog 128 #[.agg #[.int .i64 p1, .int .i64 p2], .pointer (some ⟨B, 0, none⟩)] W fun e w' => e = .returned (.bool (decide (p2 ≤ o))) ∧ Below W.heap.size W w' := by
 have b1 := al W (.cells #[.int .i64 p1, .int .i64 p2] 66)
 have hne : B ≠ W.heap.size := by omega
 go_enter Tryz.func128, Tryz.ntmps128
 go_wp2
 go_ret
 exact ⟨rfl, b1⟩
end Go.Proofs.YtpidnkfcccboaaaGreat.FreeFn
namespace Go.Proofs.YtpidnkfcccboaaaGreat.FreeFind
open Go.RowKit Base FreePlain FreeMem FreeFn

/-- where the first is that may be used -/
def At (o : Int) (l : Fs) (r : Int) : Prop := (r = -1 ∧ ∀ p ∈ l, ¬ p.2 ≤ o) ∨ ∃ k : Nat, ∃ h : k < l.length, r = k ∧ (l[k]).2 ≤ o ∧ ∀ j (_ : j < k), ¬ (l[j]).2 ≤ o
set_option maxRecDepth 100000 in
set_option maxHeartbeats 1600000 in
theorem index_any (W : World) (A : Option Addr) (n c : Nat) (l : Fs) (o : Int) (B : Nat) (hn : n = l.length) (hr : Row W W.heap.size A (fr l)) (hl : l.length ≤ 100000) (hB : B < W.heap.size) (hc : W.cell? ⟨B, 0, none⟩ = some (.int .i64 o)) :
  Calls Tryz.prog 102 #[.slice A n c, clo B] W fun e w' => ∃ r, e = .returned (.int .i64 r) ∧ At o l r ∧ Below W.heap.size W w' := by
 subst hn
 have HR := Lib.hid hr
 have HC := Lib.hid hc
 clear hr hc
 unfold clo
 go_enter Tryz.func102, Tryz.ntmps102
 go_wp2_with fail
 go_loopw [5, 8] (fun _ i wr => ∃ k : Nat, k ≤ l.length ∧ i = .int .i64 k ∧ (∀ j (_ : j < k) (h : j < l.length), o < (l[j]).2) ∧ Below W.heap.size W wr) (fun _ i _ => l.length - (intOf i).toNat)
 case atStart => exact ⟨0, by omega, rfl, by intro j h q; omega, Below.refl _ _⟩
 case round =>
  obtain ⟨k, hk, rfl, hpre, hbw⟩ := hrel
  have HP := Lib.hid hpre
  clear hpre
  by_cases hlt : k < l.length
  ·obtain ⟨ad, hA, hblk, hc1, hc2⟩ := row_at HR.out k hlt
   subst hA
   have cc1 := (hbw.cell (p := ad.add (k * 2)) (by rw [blk_add]; exact hblk)).trans hc1
   have cc2 := (hbw.cell (p := ⟨(ad.add (k * 2)).block, (ad.add (k * 2)).off + 1, none⟩) (by show (ad.add (k * 2)).block < _; rw [blk_add]; exact hblk)).trans hc2
   have cc3 := (hbw.cell (p := ⟨B, 0, none⟩) hB).trans HC.out
   have hB2 : B < wr.heap.size := Nat.lt_of_lt_of_le hB hbw.size
   clear hc1 hc2
   by_cases hle : (l[k]).2 ≤ o
   ·have HQ := Lib.hid (show At o l k from .inr ⟨k, hlt, rfl, hle, fun j hj => by have := HP.out j hj (by omega); omega⟩)
    have hd : decide ((l[k]).2 ≤ o) = true := by simpa using hle
    have hcall := test_any wr B o (l[k]).1 (l[k]).2 hB2 cc3
    rw [hd] at hcall
    clear hd hle cc3
    generalize (l[k]).1 = p1 at *
    generalize (l[k]).2 = p2 at *
    go_wp2_with (go_at_call 128; refine hcall.mono ?_; rintro e w' ⟨rfl, hb'⟩)
    go_ret
    exact ⟨_, rfl, HQ.out, hbw.trans (hb'.mono hbw.size)⟩
   ·have HQ := Lib.hid (show ∀ j (_ : j < k + 1) (h : j < l.length), o < (l[j]).2 from fun j hj h => by
     rcases Nat.lt_or_ge j k with q | q
     ·exact HP.out j q h
     ·obtain rfl : j = k := by omega
      omega)
    have hd : decide ((l[k]).2 ≤ o) = false := by simpa using hle
    have hcall := test_any wr B o (l[k]).1 (l[k]).2 hB2 cc3
    rw [hd] at hcall
    clear hd hle cc3
    generalize (l[k]).1 = p1 at *
    generalize (l[k]).2 = p2 at *
    go_wp2_with (go_at_call 128; refine hcall.mono ?_; rintro e w' ⟨rfl, hb'⟩)
    have hb2 := hbw.trans (hb'.mono hbw.size)
    clear hcall
    go_roundw
    case rel => exact ⟨k + 1, by omega, by go_num, HQ.out, hb2⟩
    case measure => simp [intOf]; omega
  ·have HQ := Lib.hid (show At o l (-1) from .inl ⟨rfl, fun p hp => by
    obtain ⟨i, hi, rfl⟩ := List.mem_iff_getElem.1 hp
    have := HP.out i (by omega) hi
    omega⟩)
   go_wp2_with fail
   go_ret
   exact ⟨_, rfl, HQ.out, hbw⟩
end Go.Proofs.YtpidnkfcccboaaaGreat.FreeFind
namespace Go.Proofs.YtpidnkfcccboaaaGreat.FreeSearch
open Go.RowKit Base FreePlain FreeMem FreeFn

/-- where a page is, or would be -/
def Sr (g : Int) (l : Fs) (k : Nat) (b : Bool) : Prop := k ≤ l.length ∧ (∀ j (_ : j < k) (h : j < l.length), (l[j]).1 < g) ∧ (∀ j (_ : k ≤ j) (h : j < l.length), g ≤ (l[j]).1) ∧ (b = true ↔ ∃ h : k < l.length, (l[k]).1 = g)
theorem cmp_neg {x y : Int} : (cmp x y < 0) = (x < y) := by
 unfold cmp
 split
 ·simp_all
 ·split <;> simp_all
theorem cmp_zero {x y : Int} : (cmp x y == 0) = decide (x = y) := by
 unfold cmp
 split
 ·rw [eq_comm]; simp; omega
 ·split
  ·rw [eq_comm]; simp; omega
  ·rw [eq_comm]; simp; omega
set_option maxRecDepth 100000 in
set_option maxHeartbeats 1600000 in
theorem search_any (W : World) (A : Option Addr) (n c : Nat) (l : Fs) (g : Int) (hn : n = l.length) (hr : Row W W.heap.size A (fr l)) (hu : Rise l) (hl : l.length ≤ 100000) :
  Calls Tryz.prog 84 #[.slice A n c, .int .i64 g, .func (.func 118) #[] #[]] W fun e w' => ∃ (k : Nat) (b : Bool), e = .returned (.tuple #[.int .i64 k, .bool b]) ∧ Sr g l k b ∧ Below W.heap.size W w' := by
 subst hn
 have HR := Lib.hid hr
 have HU := Lib.hid (fun i j (h : i < j) (hj : j < l.length) => List.pairwise_iff_getElem.1 hu i j (by omega) hj h)
 clear hr hu
 go_enter Tryz.func84, Tryz.ntmps84
 go_wp2_with fail
 go_loopw [9, 10, 11] (fun i j _ wr => ∃ k m : Nat, k ≤ m ∧ m ≤ l.length ∧ i = .int .i64 k ∧ j = .int .i64 m ∧ (∀ j (_ : j < k) (h : j < l.length), (l[j]).1 < g) ∧ (∀ j (_ : m ≤ j) (h : j < l.length), g ≤ (l[j]).1) ∧ Below W.heap.size W wr) (fun i j _ _ => (intOf j).toNat - (intOf i).toNat)
 case atStart => exact ⟨0, l.length, by omega, by omega, rfl, rfl, by intro j h q; omega, by intro j h q; omega, Below.refl _ _⟩
 case round =>
  obtain ⟨k, m, hkm, hm, rfl, rfl, hp1, hp2, hbw⟩ := hrel
  have HP := Lib.hid hp1
  have HQ := Lib.hid hp2
  clear hp1 hp2
  by_cases hlt : k < m
  ·obtain ⟨h, eh, hh1, hh2⟩ : ∃ h : Nat, ((k : Int) + (m : Int)) / 2 = (h : Int) ∧ k ≤ h ∧ h < m := ⟨(k + m) / 2, by omega, by omega, by omega⟩
   have hlh : h < l.length := by omega
   obtain ⟨ad, hA, hblk, hc1, hc2⟩ := row_at HR.out h hlh
   subst hA
   have cc1 := (hbw.cell (p := ad.add (h * 2)) (by rw [blk_add]; exact hblk)).trans hc1
   have cc2 := (hbw.cell (p := ⟨(ad.add (h * 2)).block, (ad.add (h * 2)).off + 1, none⟩) (by show (ad.add (h * 2)).block < _; rw [blk_add]; exact hblk)).trans hc2
   clear hc1 hc2
   have hcall := by_page wr (l[h]).1 (l[h]).2 g
   by_cases hle : (l[h]).1 < g
   ·have HL := Lib.hid (show ∀ j (_ : j < h + 1) (q : j < l.length), (l[j]).1 < g from fun j hj q => by
     rcases Nat.lt_or_ge j h with q' | q'
     ·have := HU.out j h q' hlh; omega
     ·obtain rfl : j = h := by omega
      exact hle)
    have hd : cmp (l[h]).1 g < 0 := by rw [cmp_neg]; exact hle
    generalize cmp (l[h]).1 g = z at *
    clear hle
    generalize (l[h]).1 = p1 at *
    generalize (l[h]).2 = p2 at *
    go_wp2_with (go_at_call 118; refine hcall.mono ?_; rintro e w' ⟨rfl, hb'⟩)
    have hb2 := hbw.trans (hb'.mono hbw.size)
    clear hcall eh
    go_roundw
    case rel => exact ⟨h + 1, m, by omega, hm, by go_num, rfl, HL.out, HQ.out, hb2⟩
    case measure => simp [intOf]; omega
   ·have HL := Lib.hid (show ∀ j (_ : h ≤ j) (q : j < l.length), g ≤ (l[j]).1 from fun j hj q => by
     rcases Nat.lt_or_ge h j with q' | q'
     ·have := HU.out h j q' q; omega
     ·obtain rfl : j = h := by omega
      omega)
    have hd : (cmp (l[h]).1 g < 0) = False := by rw [cmp_neg]; simpa using hle
    generalize cmp (l[h]).1 g = z at *
    clear hle
    generalize (l[h]).1 = p1 at *
    generalize (l[h]).2 = p2 at *
    go_wp2_with (go_at_call 118; refine hcall.mono ?_; rintro e w' ⟨rfl, hb'⟩)
    have hb2 := hbw.trans (hb'.mono hbw.size)
    clear hcall eh
    go_roundw
    case rel => exact ⟨k, h, by omega, by omega, rfl, by go_num, HP.out, HL.out, hb2⟩
    case measure => simp [intOf]; omega
  ·obtain rfl : k = m := by omega
   clear hkm hlt
   by_cases hk : k < l.length
   ·obtain ⟨ad, hA, hblk, hc1, hc2⟩ := row_at HR.out k hk
    subst hA
    have cc1 := (hbw.cell (p := ad.add (k * 2)) (by rw [blk_add]; exact hblk)).trans hc1
    have cc2 := (hbw.cell (p := ⟨(ad.add (k * 2)).block, (ad.add (k * 2)).off + 1, none⟩) (by show (ad.add (k * 2)).block < _; rw [blk_add]; exact hblk)).trans hc2
    clear hc1 hc2
    have hcall := by_page wr (l[k]).1 (l[k]).2 g
    have HS := Lib.hid (show Sr g l k (cmp (l[k]).1 g == 0) from ⟨hm, HP.out, HQ.out, by rw [cmp_zero]; simp [hk]⟩)
    generalize cmp (l[k]).1 g = z at *
    generalize (l[k]).1 = p1 at *
    generalize (l[k]).2 = p2 at *
    go_wp2_with (go_at_call 118; refine hcall.mono ?_; rintro e w' ⟨rfl, hb'⟩)
    go_ret2
    exact ⟨k, z == 0, rfl, HS.out, hbw.trans (hb'.mono hbw.size)⟩
   ·have HS := Lib.hid (show Sr g l k false from ⟨hm, HP.out, HQ.out, by simp; omega⟩)
    have hkf : ((k : Int) < (l.length : Int)) = False := by simp; omega
    clear hk
    go_wp2_with fail
    go_ret2
    exact ⟨k, false, rfl, HS.out, hbw⟩
end Go.Proofs.YtpidnkfcccboaaaGreat.FreeSearch
