/- SuperSpec, SuperCode, SuperCellOf, SuperTold. -/
import Derived.Test.YtpidnkfcccboaaaGreatKPageFour
import Derived.Test.YtpidnkfcccboaaaGreatKPageGet
import Derived.Test.YtpidnkfcccboaaaGreatKSuperPlumb
import Derived.BigGuard
import Derived.Deep.Cut
import Derived.Laws.BitsAllLaws
import Derived.Laws.ResultCell
import Derived.Laws.Rows
namespace Go.Proofs.YtpidnkfcccboaaaGreat.SuperSpec
open Go.RowKit Base SumPlain SumMem SumFill SumOf PagePlain PageSmall PageBytes PageLay PagePut PageFour PageAwake SuperPlain SuperRefCheck SuperPlumb

def zer : Sp := ⟨0, 0, 0, 0⟩
/-- the summer serves on, and nothing else has turned -/
def On (g : Nat) (n : Int) (W w' : World) : Prop := (∃ n', n ≤ n' ∧ n' ≤ n + 2000 ∧ Ready w' g n') ∧ Only g W w'
def ansOf (a : Int ⊕ Sp) : Value := match a with
 | .inl k => .tuple #[sv zer, .int .i64 k]
 | .inr x => .tuple #[sv x, .int .i64 0]
structure Specs : Prop where
 check : ∀ W x, InS x → Calls Tryz.prog 120 #[sv x] W fun e w' => e = .returned (.bool (decide (Ok x))) ∧ Below W.heap.size W w'
 next : ∀ W x r f p, 0 ≤ x.ep → x.ep ≤ 4294967295 → Calls Tryz.prog 53 #[sv x, .int .i64 r, .int .i64 f, .int .i64 p] W fun e w' => e = .returned (sv (next x r f p)) ∧ Below W.heap.size W w'
 put : ∀ g n W x, Ready W g n → 0 ≤ n → n ≤ 800000000 → InS x → Calls Tryz.prog 117 #[.pointer (some ⟨g, 0, none⟩), sv x] W fun e w' => On g n W w' ∧
  ((Ok x ∧ ∃ b t, e = .returned (.tuple #[.slice (some ⟨b, 0, none⟩) 256 256, .int .i64 (x.ep % 2), .int .i64 0]) ∧ W.heap.size ≤ b ∧ Arr w' b t (sbytes x)) ∨ (¬ Ok x ∧ e = .returned (.tuple #[.slice none 0 0, .int .i64 0, .int .i64 70])))
 get : ∀ g n W s ad c l, Ready W g n → 0 ≤ n → n ≤ 800000000 → RowX W g (some ad) (bv l) → l.length = 256 → 256 ≤ c → Calls Tryz.prog 96 #[.pointer (some ⟨g, 0, none⟩), .int .i64 s, .slice (some ad) 256 c] W fun e w' => e = .returned (ansOf (getS s l)) ∧ On g n W w'
 pick : ∀ g n W ad bd c d l q, Ready W g n → 0 ≤ n → n ≤ 800000000 → RowX W g (some ad) (bv l) → RowX W g (some bd) (bv q) → l.length = 256 → q.length = 256 → 256 ≤ c → 256 ≤ d → Calls Tryz.prog 68 #[.pointer (some ⟨g, 0, none⟩), .slice (some ad) 256 c, .slice (some bd) 256 d] W fun e w' => e = .returned (ansOf (pickS l q)) ∧ On g n W w'
/-- a boxed super -/
def Bs (w : World) (b : Nat) (x : Sp) : Prop := At w b 29 #[.int .i64 x.ep, .int .i64 x.root, .int .i64 x.free, .int .i64 x.pages]
theorem bs_new (w : World) (x : Sp) : Bs (w.alloc (.cells #[.int .i64 x.ep, .int .i64 x.root, .int .i64 x.free, .int .i64 x.pages] 29)) w.heap.size x := heap_alloc_new w _
section
variable {w w' : World} {b g : Nat} {x : Sp}
theorem Bs.cells (h : Bs w b x) : w.cell? ⟨b, 0, none⟩ = some (.int .i64 x.ep) ∧ w.cell? ⟨b, 1, none⟩ = some (.int .i64 x.root) ∧ w.cell? ⟨b, 2, none⟩ = some (.int .i64 x.free) ∧ w.cell? ⟨b, 3, none⟩ = some (.int .i64 x.pages) := by
 have hh : w.heap[b]? = some _ := h
 refine ⟨?_, ?_, ?_, ?_⟩ <;> simp [World.cell?, hh]
theorem Bs.lt (h : Bs w b x) : b < w.heap.size := At.lt h
theorem Bs.below (h : Bs w b x) (hb : Below w.heap.size w w') : Bs w' b x := at_below h hb
theorem Bs.far (h : Bs w b x) {p : Addr} (hp : b ≠ p.block) (u : Value) : Bs (w.setCell p u) b x := (Below.heap_setCell w p u b hp).trans h
theorem Bs.only (h : Bs w b x) (ho : Only g w w') (hg : b ≠ g) : Bs w' b x := at_only h ho hg
end
theorem al' (w : World) (o : Obj) : Below w.heap.size w (w.alloc o) := (Below.refl _ _).alloc (Nat.le_refl _) _
/-- the law's own start: a summer, and what has turned since -/
structure Sg (W : World) (g : Nat) (k : Int) (w : World) : Prop where
 r : ∃ n, 0 ≤ n ∧ n ≤ k ∧ Ready w g n
 lo : W.heap.size ≤ g
 lt : g < w.heap.size
 base : Below W.heap.size W w
section
variable {W w w' : World} {g : Nat} {k : Int}
theorem Sg.below (h : Sg W g k w) (hb : Below w.heap.size w w') : Sg W g k w' := by
 obtain ⟨⟨n, h0, h1, hr⟩, lo, lt, base⟩ := h
 exact ⟨⟨n, h0, h1, Ready.below hr hb⟩, lo, Nat.lt_of_lt_of_le lt hb.size, base.trans (hb.mono base.size)⟩
theorem Sg.far (h : Sg W g k w) {p : Addr} (hp : g ≠ p.block) (hW : W.heap.size ≤ p.block) (u : Value) : Sg W g k (w.setCell p u) := by
 obtain ⟨⟨n, h0, h1, hr⟩, lo, lt, base⟩ := h
 exact ⟨⟨n, h0, h1, PageGet.ready_far hr p hp u⟩, lo, by simpa [World.setCell] using lt, base.setCell hW u⟩
theorem Sg.on (h : Sg W g k w) {n : Int} (hn : n ≤ k) (h0 : 0 ≤ n) (ho : On g n w w') : Sg W g (k + 2000) w' := by
 obtain ⟨⟨n', a, b, hr⟩, only⟩ := ho
 exact ⟨⟨n', by omega, by omega, hr⟩, h.lo, Nat.lt_of_lt_of_le h.lt only.size, h.base.trans (only.below h.lo h.lt)⟩
end
section
variable (S : Specs) {W w : World} {g : Nat} {k : Int}
end
end Go.Proofs.YtpidnkfcccboaaaGreat.SuperSpec
namespace Go.Proofs.YtpidnkfcccboaaaGreat.SuperCode
open Go.RowKit Base SumMem SumOf SuperPlain SuperRefCheck SuperSpec

/-- a super's box written whole -/
theorem bs_over {w : World} {b : Nat} {x : Sp} (h : Bs w b x) (n : Sp) : Bs ((((w.setCell ⟨b, 0, none⟩ (.int .i64 n.ep)).setCell ⟨b, 1, none⟩ (.int .i64 n.root)).setCell ⟨b, 2, none⟩ (.int .i64 n.free)).setCell ⟨b, 3, none⟩ (.int .i64 n.pages)) b n := by
 have hh : w.heap[b]? = some _ := h
 show _ = _
 simp [World.setCell, Array.getElem?_modify, hh]
theorem below_over {W w : World} {b : Nat} {B : Nat} (h : Below B W w) (hb : B ≤ b) (n : Sp) : Below B W ((((w.setCell ⟨b, 0, none⟩ (.int .i64 n.ep)).setCell ⟨b, 1, none⟩ (.int .i64 n.root)).setCell ⟨b, 2, none⟩ (.int .i64 n.free)).setCell ⟨b, 3, none⟩ (.int .i64 n.pages)) :=
 (((h.setCell hb _).setCell hb _).setCell hb _).setCell hb _
def Lead (n p : Int) : Prop := n = 0 ∨ 2 ≤ n ∧ n < p
instance (n p : Int) : Decidable (Lead n p) := by unfold Lead; infer_instance
set_option maxRecDepth 100000 in
theorem lead_any (W : World) (n p : Int) : Calls Tryz.prog 132 #[.int .i64 n, .int .i64 p] W fun e w' => e = .returned (.bool (decide (Lead n p))) ∧ Below W.heap.size W w' := by
 go_enter Tryz.func132, Tryz.ntmps132
 go_wp2
 all_goals (go_ret; first | exact ⟨ret_bool (decide_eq_true (by unfold Lead; omega)).symm, Below.refl _ _⟩ | exact ⟨ret_bool (decide_eq_false (by unfold Lead; omega)).symm, Below.refl _ _⟩ | exact ⟨ret_bool (by rw [Bool.eq_iff_iff, decide_eq_true_iff]; unfold Lead; simp only [Bool.or_eq_true, beq_iff_eq, decide_eq_true_eq]; omega), Below.refl _ _⟩)
set_option maxRecDepth 100000 in
theorem slot_any (W : World) (x : Sp) : Calls Tryz.prog 121 #[sv x] W fun e w' => e = .returned (.int .i64 (x.ep.tmod 2)) ∧ Below W.heap.size W w' := by
 obtain ⟨ep, root, free, pages⟩ := x
 go_enter Tryz.func121, Tryz.ntmps121
 go_wp2
 go_ret
 exact ⟨rfl, al _ _⟩
set_option maxRecDepth 100000 in
set_option maxHeartbeats 3200000 in
theorem next_any (W : World) (x : Sp) (r f p : Int) (h0 : 0 ≤ x.ep) (h1 : x.ep ≤ 4294967295) : Calls Tryz.prog 53 #[sv x, .int .i64 r, .int .i64 f, .int .i64 p] W fun e w' => e = .returned (sv (next x r f p)) ∧ Below W.heap.size W w' := by
 obtain ⟨ep, root, free, pages⟩ := x
 simp only at h0 h1
 have hw : IntKind.i64.wrap (ep + 1) = ep + 1 := IntWalk.i64_in _ (by omega)
 have h2 : Bs ((W.alloc (.cells #[.int .i64 ep, .int .i64 root, .int .i64 free, .int .i64 pages] 29)).alloc (.cells #[.int .i64 (ep + 1), .int .i64 r, .int .i64 f, .int .i64 p] 29)) (W.heap.size + 1) ⟨ep + 1, r, f, p⟩ := by
  have h := bs_new (W.alloc (.cells #[.int .i64 ep, .int .i64 root, .int .i64 free, .int .i64 pages] 29)) ⟨ep + 1, r, f, p⟩
  rw [show (W.alloc (.cells #[.int .i64 ep, .int .i64 root, .int .i64 free, .int .i64 pages] 29)).heap.size = W.heap.size + 1 from Array.size_push _] at h
  exact h
 have HA := Lib.hid h2
 have HB := Lib.hid (show Below W.heap.size W ((W.alloc (.cells #[.int .i64 ep, .int .i64 root, .int .i64 free, .int .i64 pages] 29)).alloc (.cells #[.int .i64 (ep + 1), .int .i64 r, .int .i64 f, .int .i64 p] 29)) from Below.step (al _ _) (al _ _))
 clear h2
 go_enter Tryz.func53, Tryz.ntmps53
 go_wp2
 refine bodyPost_ret (results_cell_row rfl _ _ (W.heap.size + 1) 29 _ (0, 0) _ rfl HA.out Tryz.underlying29 rfl (by kernel_rfl)) rfl ?_
 exact ⟨rfl, HB.out⟩
set_option maxRecDepth 100000 in
set_option maxHeartbeats 6400000 in
theorem check_any (W : World) (x : Sp) : Calls Tryz.prog 120 #[sv x] W fun e w' => e = .returned (.bool (decide (Ok x))) ∧ Below W.heap.size W w' := by
 have hok : Ok x ↔ 0 ≤ x.ep ∧ x.ep ≤ 4294967295 ∧ 2 ≤ x.pages ∧ x.pages ≤ 4096 ∧ Lead x.root x.pages ∧ Lead x.free x.pages := Iff.rfl
 obtain ⟨o, ho⟩ : ∃ o, decide (Ok x) = o := ⟨_, rfl⟩
 rw [ho]
 have HO := Lib.hid (And.intro ho hok)
 clear ho hok
 have b1 := bs_new W x
 have hb1 := al W (.cells #[.int .i64 x.ep, .int .i64 x.root, .int .i64 x.free, .int .i64 x.pages] 29)
 obtain ⟨w1, hw1⟩ : ∃ v, v = W.alloc (.cells #[.int .i64 x.ep, .int .i64 x.root, .int .i64 x.free, .int .i64 x.pages] 29) := ⟨_, rfl⟩
 rw [← hw1] at b1 hb1
 obtain ⟨c0, c1, c2, c3⟩ := b1.cells
 have HW := Lib.hid hw1
 clear hw1
 have hl1 := lead_any w1 x.root x.pages
 have hlt := b1.lt
 generalize hbx : W.heap.size = bx at *
 go_enter Tryz.func120, Tryz.ntmps120
 go_upto_region 1 with fail
 try rw [← HW.out]
 try rw [hbx]
 go_wp2_with fail
 all_goals (first | (go_ret; first | exact ⟨ret_bool (HO.out.1.symm.trans (decide_eq_false (by rw [HO.out.2]; omega))).symm, hb1⟩ | done) | skip)
 (with_reducible refine hl1.mono ?_)
 rintro e w2 ⟨rfl, hb2⟩
 clear c0 c1 c2 c3 hl1
 have b2 := b1.below hb2
 obtain ⟨c0, c1, c2, c3⟩ := b2.cells
 have hl2 := lead_any w2 x.free x.pages
 have HB2 := Lib.hid (hb1.trans (hb2.mono (Nat.le_of_lt hlt)))
 have hlt2 := b2.lt
 clear b1 b2 hb1 hb2
 by_cases h5 : Lead x.root x.pages
 ·rw [decide_eq_true h5]
  go_wp2_with fail
  (with_reducible refine hl2.mono ?_)
  rintro e w3 ⟨rfl, hb3⟩
  go_wp2_with fail
  go_ret
  exact ⟨ret_bool (HO.out.1.symm.trans (by rw [decide_eq_decide, HO.out.2]; simp only [*, true_and])).symm, HB2.out.trans (hb3.mono (Nat.le_of_lt hlt2))⟩
 ·rw [decide_eq_false h5]
  go_wp2_with fail
  go_ret
  exact ⟨ret_bool (HO.out.1.symm.trans (decide_eq_false (by rw [HO.out.2]; exact fun h => h5 h.2.2.2.2.1))).symm, HB2.out⟩
end Go.Proofs.YtpidnkfcccboaaaGreat.SuperCode
namespace Go.Proofs.YtpidnkfcccboaaaGreat.SuperCellOf
open Go.RowKit Base SumPlain SumMem SumFill SumOf PagePlain PageSmall PageBytes PageLay SuperPlain SuperRefCheck SuperSpec SuperCode

/-- the twelve bytes -/
def B12 (x : Sp) : List UInt8 := be4 x.root.toNat ++ be4 x.free.toNat ++ be4 x.pages.toNat
theorem b12_len (x : Sp) : (B12 x).length = 12 := rfl
/-- so many of them written -/
def wr (x : Sp) (k : Nat) : List UInt8 := (B12 x).take k ++ zs (12 - k)
theorem wr_set {x : Sp} {k : Nat} {v : UInt8} (hv : (B12 x)[k]? = some v) : (wr x k).set k v = wr x (k + 1) := by
 have h : (B12 x).length = 12 := b12_len x
 have hk : k < 12 := by
  rcases Nat.lt_or_ge k 12 with q | q
  ·exact q
  ·rw [List.getElem?_eq_none (by omega)] at hv; cases hv
 unfold wr zs
 rw [List.set_append_right _ _ (by rw [List.length_take]; omega), List.length_take, h, Nat.min_eq_left (by omega), Nat.sub_self,
  show 12 - k = (12 - (k + 1)) + 1 from by omega, List.replicate_succ, List.set_cons_zero, List.take_add_one, hv]
 simp
theorem wr_len (x : Sp) (k : Nat) (hk : k ≤ 12) : (wr x k).length = 12 := by
 unfold wr zs
 rw [List.length_append, List.length_take, b12_len, List.length_replicate]
 omega
structure CL (W : World) (x : Sp) (k : Nat) (w : World) : Prop where
 nums : At w (W.heap.size + 1) 178 #[.int .i64 x.root, .int .i64 x.free, .int .i64 x.pages]
 arr : Arr w (W.heap.size + 1 + 1) 209 (wr x k)
 base : Below W.heap.size W w
theorem CL.set {W w : World} {x : Sp} {k : Nat} (h : CL W x k w) {v : UInt8} (hv : (B12 x)[k]? = some v) : CL W x (k + 1) (w.setCell ⟨W.heap.size + 1 + 1, k, none⟩ (.int .u8 (v.toNat : Int))) := by
 have ha := Arr.set h.arr k v
 rw [wr_set hv] at ha
 exact ⟨(Below.heap_setCell w ⟨W.heap.size + 1 + 1, k, none⟩ _ _ (by simp)).trans h.nums, ha, h.base.setCell (p := ⟨W.heap.size + 1 + 1, k, none⟩) (by simp only []; omega) _⟩
theorem CL.put {W w : World} {x : Sp} {k : Nat} {z : Int} (h : CL W x k w) {v : UInt8} (hv : (B12 x)[k]? = some v) (hz : z = (v.toNat : Int)) : CL W x (k + 1) (w.setCell ⟨W.heap.size + 1 + 1, k, none⟩ (.int .u8 z)) := by
 subst hz
 exact h.set hv
theorem cl_new (W : World) (x : Sp) : CL W x 0 (((W.alloc (.cells #[.int .i64 x.ep, .int .i64 x.root, .int .i64 x.free, .int .i64 x.pages] 29)).alloc (.cells #[.int .i64 x.root, .int .i64 x.free, .int .i64 x.pages] 178)).alloc
  (.cells #[.int .u8 0, .int .u8 0, .int .u8 0, .int .u8 0, .int .u8 0, .int .u8 0, .int .u8 0, .int .u8 0, .int .u8 0, .int .u8 0, .int .u8 0, .int .u8 0] 209)) := by
 refine ⟨?_, ?_, Below.step (Below.step (al _ _) (al _ _)) (al _ _)⟩
 ·have h := heap_alloc_new (W.alloc (.cells #[.int .i64 x.ep, .int .i64 x.root, .int .i64 x.free, .int .i64 x.pages] 29)) (.cells #[.int .i64 x.root, .int .i64 x.free, .int .i64 x.pages] 178)
  rw [show (W.alloc (.cells #[.int .i64 x.ep, .int .i64 x.root, .int .i64 x.free, .int .i64 x.pages] 29)).heap.size = W.heap.size + 1 from Array.size_push _] at h
  exact (Below.heap_alloc _ _ _ (by rw [show ((W.alloc _).alloc _).heap.size = (W.alloc _).heap.size + 1 from Array.size_push _, show (W.alloc _).heap.size = W.heap.size + 1 from Array.size_push _]; omega)).trans h
 ·have h := heap_alloc_new ((W.alloc (.cells #[.int .i64 x.ep, .int .i64 x.root, .int .i64 x.free, .int .i64 x.pages] 29)).alloc (.cells #[.int .i64 x.root, .int .i64 x.free, .int .i64 x.pages] 178)) (.cells #[.int .u8 0, .int .u8 0, .int .u8 0, .int .u8 0, .int .u8 0, .int .u8 0, .int .u8 0, .int .u8 0, .int .u8 0, .int .u8 0, .int .u8 0, .int .u8 0] 209)
  rw [show ((W.alloc _).alloc _).heap.size = (W.alloc _).heap.size + 1 from Array.size_push _, show (W.alloc _).heap.size = W.heap.size + 1 from Array.size_push _] at h
  exact h
set_option maxRecDepth 100000 in
set_option maxHeartbeats 6400000 in
theorem cell_any (W : World) (x : Sp) (hx : Ok x) : Calls Tryz.prog 134 #[sv x] W fun e w' => e = .returned (.string (cell x)) ∧ Below W.heap.size W w' := by
 obtain ⟨_, _, hp0, hp1, hr, hf⟩ := hx
 have j0 := cl_new W x
 go_enter Tryz.func134, Tryz.ntmps134
 go_wp2_with fail
 go_loopw [14] (fun i wr => ∃ k : Nat, k ≤ 12 ∧ i = .int .i64 k ∧ CL W x k wr) (fun i _ => 12 - (intOf i).toNat)
 case atStart => exact ⟨0, by omega, rfl, j0⟩
 case round =>
  clear j0
  obtain ⟨k, hk, rfl, hj⟩ := hrel
  rcases Nat.lt_or_ge k 12 with hlt | hge
  ·have hc : k = 0 ∨ k = 1 ∨ k = 2 ∨ k = 3 ∨ k = 4 ∨ k = 5 ∨ k = 6 ∨ k = 7 ∨ k = 8 ∨ k = 9 ∨ k = 10 ∨ k = 11 := by omega
   have n0 : wr.cell? ⟨W.heap.size + 1, 0, none⟩ = some (.int .i64 x.root) := by rw [At.cell hj.nums]; rfl
   have n1 : wr.cell? ⟨W.heap.size + 1, 1, none⟩ = some (.int .i64 x.free) := by rw [At.cell hj.nums]; rfl
   have n2 : wr.cell? ⟨W.heap.size + 1, 2, none⟩ = some (.int .i64 x.pages) := by rw [At.cell hj.nums]; rfl
   have hz := fun j => At.frozen hj.arr j
   obtain ⟨v, hv⟩ : ∃ v, wr.cell? ⟨W.heap.size + 1 + 1, k, none⟩ = some v := ⟨_, Arr.cell hj.arr k (by rw [wr_len _ _ hk]; exact hlt)⟩
   have hcl := Lib.hid hj
   clear hj
   rcases hc with rfl | rfl | rfl | rfl | rfl | rfl | rfl | rfl | rfl | rfl | rfl | rfl
   all_goals
    go_wp2_with fail
    go_roundw
   ·exact ⟨1, by omega, rfl, hcl.out.put (v := b8 (x.root.toNat / 16777216)) rfl (by rw [b8_nat]; omega)⟩
   ·simp [intOf]
   ·exact ⟨2, by omega, rfl, hcl.out.put (v := b8 (x.root.toNat / 65536)) rfl (by rw [b8_nat]; omega)⟩
   ·simp [intOf]
   ·exact ⟨3, by omega, rfl, hcl.out.put (v := b8 (x.root.toNat / 256)) rfl (by rw [b8_nat]; omega)⟩
   ·simp [intOf]
   ·exact ⟨4, by omega, rfl, hcl.out.put (v := b8 (x.root.toNat)) rfl (by rw [b8_nat]; omega)⟩
   ·simp [intOf]
   ·exact ⟨5, by omega, rfl, hcl.out.put (v := b8 (x.free.toNat / 16777216)) rfl (by rw [b8_nat]; omega)⟩
   ·simp [intOf]
   ·exact ⟨6, by omega, rfl, hcl.out.put (v := b8 (x.free.toNat / 65536)) rfl (by rw [b8_nat]; omega)⟩
   ·simp [intOf]
   ·exact ⟨7, by omega, rfl, hcl.out.put (v := b8 (x.free.toNat / 256)) rfl (by rw [b8_nat]; omega)⟩
   ·simp [intOf]
   ·exact ⟨8, by omega, rfl, hcl.out.put (v := b8 (x.free.toNat)) rfl (by rw [b8_nat]; omega)⟩
   ·simp [intOf]
   ·exact ⟨9, by omega, rfl, hcl.out.put (v := b8 (x.pages.toNat / 16777216)) rfl (by rw [b8_nat]; omega)⟩
   ·simp [intOf]
   ·exact ⟨10, by omega, rfl, hcl.out.put (v := b8 (x.pages.toNat / 65536)) rfl (by rw [b8_nat]; omega)⟩
   ·simp [intOf]
   ·exact ⟨11, by omega, rfl, hcl.out.put (v := b8 (x.pages.toNat / 256)) rfl (by rw [b8_nat]; omega)⟩
   ·simp [intOf]
   ·exact ⟨12, by omega, rfl, hcl.out.put (v := b8 (x.pages.toNat)) rfl (by rw [b8_nat]; omega)⟩
   ·simp [intOf]
  ·obtain rfl : k = 12 := by omega
   have hl : SuperCellOf.wr x 12 = B12 x := by unfold SuperCellOf.wr zs; rw [← b12_len x, List.take_length]; simp
   have hrow := Arr.row hj.arr
   rw [hl] at hrow
   have hcv := conv_bytes (P := Tryz.prog) (src := 96) (dst := 9) Tryz.underlying96 Tryz.underlying5 Tryz.underlying9 12 hrow
   rw [show (B12 x).length = 12 from rfl] at hcv
   have hcut : (Instr.sliceAt 209 (.pointer (some ⟨W.heap.size + 1 + 1, 0, none⟩)) none none none).run Tryz.prog wr = .ok (.slice (some ⟨W.heap.size + 1 + 1, 0, none⟩) 12 12) wr := by
    kernel_rfl
   clear hl hrow
   go_wp2_with fail
   go_ret
   exact ⟨rfl, hj.base⟩
end Go.Proofs.YtpidnkfcccboaaaGreat.SuperCellOf
namespace Go.Proofs.YtpidnkfcccboaaaGreat.SuperTold
open Go.RowKit Base SumPlain SumMem SumFill SumOf PagePlain PageSmall PageBytes PageLay PageCut PageTold2 PageAwake SuperPlain SuperRefCheck SuperSpec SuperCode

/-- what the closure holds: the text, where it stands -/
structure Rd (w : World) (x y : Nat) (s : ByteArray) (i : Nat) : Prop where
 a : At w x 9 #[.string s]
 b : At w y 3 #[.int .i64 (i : Int)]
 xy : x ≠ y
theorem Rd.set {w : World} {x y : Nat} {s : ByteArray} {i : Nat} (h : Rd w x y s i) (i' : Nat) : Rd (w.setCell ⟨y, 0, none⟩ (.int .i64 (i' : Int))) x y s i' :=
 ⟨at_far h.a h.xy _, by simpa using h.b.set 0 (.int .i64 (i' : Int)), h.xy⟩
theorem Rd.below {w w' : World} {x y : Nat} {s : ByteArray} {i : Nat} (h : Rd w x y s i) (hb : Below w.heap.size w w') : Rd w' x y s i :=
 ⟨at_below h.a hb, at_below h.b hb, h.xy⟩
theorem reader_any (w : World) (s : ByteArray) :
  Calls Tryz.prog 131 #[.string s] w fun e w' => ∃ x y : Nat, e = .returned (.func (.func 140) #[] #[.pointer (some ⟨x, 0, none⟩), .pointer (some ⟨y, 0, none⟩)]) ∧
   Rd w' x y s 0 ∧ w.heap.size ≤ x ∧ w.heap.size ≤ y ∧ Below w.heap.size w w' := by
 have hmf : ∀ (fn : Fn) (first cap : Array Value) (w : World), (Instr.makeFunc fn first cap).run Tryz.prog w = .ok (.func fn first cap) w := fun _ _ _ _ => rfl
 have HC := Lib.hid (show Rd ((w.alloc (.cells #[.string s] 9)).alloc (.cells #[.int .i64 0] 3)) w.heap.size (w.heap.size + 1) s 0 from by
  refine ⟨?_, ?_, by omega⟩
  ·show _ = _
   rw [Below.heap_alloc _ _ _ (by simp), heap_alloc_new]
  ·have := heap_alloc_new (w.alloc (.cells #[.string s] 9)) (.cells #[.int .i64 0] 3)
   show _ = _
   simpa using this)
 have HB := Lib.hid (show Below w.heap.size w ((w.alloc (.cells #[.string s] 9)).alloc (.cells #[.int .i64 0] 3)) from Below.step (al _ _) (al _ _))
 go_enter Tryz.func131, Tryz.ntmps131
 go_wp2_with fail
 go_ret
 exact ⟨_, _, rfl, HC.out, by omega, by omega, HB.out⟩
/-- so many bytes from i on, as a number -/
def num (l : List UInt8) (i : Nat) : Nat → Nat
 | 0 => 0
 | k + 1 => num l i k * 256 + gt l (i + k)
theorem num4 (l : List UInt8) (i : Nat) : num l i 4 = rd4 l i := by simp [num, rd4]
theorem num_lt (l : List UInt8) (i : Nat) : ∀ k, num l i k < 256 ^ k
 | 0 => by simp [num]
 | k + 1 => by
  have h1 := num_lt l i k
  have h2 := gt_lt l (i + k)
  rw [num, Nat.pow_succ]
  omega
theorem or_nat (a b : Nat) (h1 : b < 256) (h3 : a * 256 < 4294967296) : bits .or .i64 ((a : Int) * 256) (b : Int) = ((a * 256 + b : Nat) : Int) := by
 have hx : (a * 256) ||| b < 2 ^ 32 := Nat.or_lt_two_pow (by omega) (by omega)
 have e : (a * 256) ||| b = a * 256 + b := by
  have := Nat.shiftLeft_add_eq_or_of_lt (show b < 2 ^ 8 by omega) a
  rw [Nat.shiftLeft_eq] at this
  exact this.symm
 have o : ∀ n : Nat, n < 4294967296 → (BitVec.ofInt 64 (n : Int)).toNat = n := fun n hn => by simp; omega
 show IntKind.i64.wrap ((BitVec.ofInt 64 ((a : Int) * 256) ||| BitVec.ofInt 64 (b : Int)).toNat : Int) = _
 rw [show (a : Int) * 256 = ((a * 256 : Nat) : Int) by omega, BitVec.toNat_or, o (a * 256) h3, o b (by omega), ← e]
 exact IntWalk.i64_in _ (by omega)
theorem Rd.one {w : World} {x y : Nat} {s : ByteArray} {i : Nat} (h : Rd w x y s i) : Rd (w.setCell ⟨y, 0, none⟩ (.int .i64 ((i : Int) + 1))) x y s (i + 1) := by
 have := h.set (i + 1)
 rwa [show (((i + 1 : Nat)) : Int) = (i : Int) + 1 by omega] at this
set_option maxRecDepth 100000 in
set_option maxHeartbeats 1600000 in
theorem next_any (w : World) (x y : Nat) (s : ByteArray) (i : Nat) (h : Rd w x y s i) (hi : i + 4 ≤ s.size) (hs : s.size ≤ 1000) :
  Calls Tryz.prog 140 #[.pointer (some ⟨x, 0, none⟩), .pointer (some ⟨y, 0, none⟩)] w fun ex w' => ex = .returned (.int .i64 (rd4 (bl s) i : Int)) ∧ Rd w' x y s (i + 4) ∧ Only y w w' := by
 rw [← num4]
 have j0 : Rd w x y s (i + 0) ∧ Only y w w := ⟨h, Only.refl w y⟩
 go_enter Tryz.func140, Tryz.ntmps140
 go_wp2_with fail
 go_loopw [3, 4] (fun v z wr => ∃ k : Nat, k ≤ 4 ∧ z = .int .i64 k ∧ v = .int .i64 (num (bl s) i k : Int) ∧ Rd wr x y s (i + k) ∧ Only y w wr) (fun _ z _ => 4 - (intOf z).toNat)
 case atStart => exact ⟨0, by omega, rfl, rfl, j0⟩
 case round =>
  clear j0
  obtain ⟨k, hk, rfl, rfl, hr, ho⟩ := hrel
  by_cases hlt : k < 4
  ·have ca : wr.cell? ⟨x, 0, none⟩ = some (.string s) := by rw [hr.a.cell]; rfl
   have cb : wr.cell? ⟨y, 0, none⟩ = some (.int .i64 ((i + k : Nat) : Int)) := by rw [hr.b.cell]; rfl
   have fb := hr.b.frozen 0
   have hn := num_lt (bl s) i k
   have hn2 : num (bl s) i k < 16777216 := by
    have h2 : 256 ^ k ≤ 256 ^ 3 := Nat.pow_le_pow_right (by omega) (by omega)
    omega
   have HN := Lib.hid (show num (bl s) i (k + 1) = num (bl s) i k * 256 + (s[i + k]'(by omega)).toNat from by
    rw [num, gt_get (bl s) (i + k) (by rw [bl_len]; omega)]
    rfl)
   clear hn
   generalize num (bl s) i k = r at *
   go_wp2_with fail
   go_roundw
   case rel =>
    refine ⟨k + 1, by omega, by go_num, ?_, ?_, ?_⟩
    ·have hb := UInt8.toNat_lt (s[i + k]'(by omega))
     first | rw [or_nat _ _ (by omega) (by omega), HN.out] | rw [IntWalk.wrap64_in (((s[i + k]'(by omega)).toNat : Nat) : Int) (by omega), or_nat _ _ (by omega) (by omega), HN.out]
    ·exact hr.one
    ·exact ho.set 0 _
   case measure => simp [intOf]; omega
  ·obtain rfl : k = 4 := by omega
   go_wp2_with fail
   go_ret
   exact ⟨rfl, hr, ho⟩
/-- what a page's cell tells -/
def toldS (p : Pg) : Option Sp := match p.cells with
 | [c] => if c.size = 12 then some ⟨p.epoch, rd4 (bl c) 0, rd4 (bl c) 4, rd4 (bl c) 8⟩ else none
 | _ => none
def oS : Option Sp → Value
 | some x => .tuple #[sv x, .bool true]
 | none => .tuple #[sv zer, .bool false]
/-- the box of told's page, and its result's -/
structure Tw (W : World) (p : Pg) (A : Option Addr) (c : Nat) (w : World) : Prop where
 pg : PgAt w W.heap.size p A c
 z : Bs w (W.heap.size + 1) zer
 base : Below W.heap.size W w
theorem Tw.below {W w w' : World} {p : Pg} {A : Option Addr} {c : Nat} (h : Tw W p A c w) (hb : Below w.heap.size w w') : Tw W p A c w' :=
 ⟨at_below h.pg hb, h.z.below hb, h.base.trans (hb.mono h.base.size)⟩
theorem Tw.only {W w w' : World} {p : Pg} {A : Option Addr} {c y : Nat} (h : Tw W p A c w) (ho : Only y w w') (hy : W.heap.size + 2 ≤ y) (hl : y < w.heap.size) : Tw W p A c w' :=
 ⟨at_only h.pg ho (by omega), h.z.only ho (by omega), h.base.trans (ho.below (by omega) hl)⟩
theorem tw_new (W : World) (p : Pg) (A : Option Addr) (c : Nat) : Tw W p A c ((W.alloc (.cells #[.int .i64 p.kind, .int .i64 p.no, .int .i64 p.epoch, .int .i64 p.link, .slice A p.cells.length c] 69)).alloc (.cells #[.int .i64 0, .int .i64 0, .int .i64 0, .int .i64 0] 29)) := by
 refine ⟨?_, ?_, Below.step (al _ _) (al _ _)⟩
 ·exact at_below (heap_alloc_new W _) (al _ _)
 ·have h := bs_new (W.alloc (.cells #[.int .i64 p.kind, .int .i64 p.no, .int .i64 p.epoch, .int .i64 p.link, .slice A p.cells.length c] 69)) zer
  rw [show (W.alloc _).heap.size = W.heap.size + 1 from Array.size_push _] at h
  exact h
set_option maxRecDepth 100000 in
set_option maxHeartbeats 3200000 in
theorem told_any (W : World) (p : Pg) (A : Option Addr) (c : Nat) (hr : Row W W.heap.size A (strs p.cells)) : Calls Tryz.prog 119 #[pv p A c] W fun e w' => e = .returned (oS (toldS p)) ∧ Below W.heap.size W w' := by
 have t0 := tw_new W p A c
 obtain ⟨w1, hw1⟩ : ∃ v, v = ((W.alloc (.cells #[.int .i64 p.kind, .int .i64 p.no, .int .i64 p.epoch, .int .i64 p.link, .slice A p.cells.length c] 69)).alloc (.cells #[.int .i64 0, .int .i64 0, .int .i64 0, .int .i64 0] 29)) := ⟨_, rfl⟩
 rw [← hw1] at t0
 have HW := Lib.hid hw1
 clear hw1
 obtain ⟨d0, d1, d2, d3, d4⟩ := five t0.pg
 by_cases hone : p.cells.length = 1
 rotate_left
 ·have hn : toldS p = none := by
   unfold toldS
   split
   ·rename_i h; rw [h] at hone; exact absurd rfl hone
   ·rfl
  rw [hn]
  have hne : ((p.cells.length : Int) = 1) = False := by rw [eq_iff_iff]; exact ⟨fun h => by omega, fun h => h.elim⟩
  have HB := Lib.hid t0.z
  have HD := Lib.hid t0.base
  clear hr t0 hn
  unfold pv
  generalize p.cells.length = n at *
  generalize hbx : W.heap.size = bx at *
  have z0 := At.frozen HB.out 0
  have z1 := At.frozen HB.out 1
  have z2 := At.frozen HB.out 2
  have z3 := At.frozen HB.out 3
  obtain ⟨c0, c1, c2, c3⟩ := HB.out.cells
  go_enter Tryz.func119, Tryz.ntmps119
  go_upto_region 1 with fail
  try rw [← HW.out]
  try rw [hbx]
  go_wp2_with fail
  refine bodyPost_ret (results_cell_tmp_row rfl _ _ (bx + 1) 29 _ (0, 0) _ rfl (bs_over HB.out zer) Tryz.underlying29 rfl (by kernel_rfl)) rfl ?_
  exact ⟨rfl, below_over HD.out (by omega) zer⟩
 obtain ⟨q, hq⟩ : ∃ q, p.cells = [q] := by
  match h : p.cells, hone with
  | [q], _ => exact ⟨q, rfl⟩
 rw [hq] at hr
 obtain ⟨ad, rfl, hb0, hcq⟩ := strs_get hr 0 (by simp)
 have hcq1 : w1.cell? ad = some (.string q) := by
  have h := (t0.base.cell (p := ad) hb0).trans (by simpa [Addr.add] using hcq)
  exact h
 have hlen : ((p.cells.length : Nat) : Int) = 1 := by rw [hone]; rfl
 have ht : toldS p = if q.size = 12 then some ⟨p.epoch, rd4 (bl q) 0, rd4 (bl q) 4, rd4 (bl q) 8⟩ else none := by unfold toldS; rw [hq]
 rw [ht]
 unfold pv
 rw [hone] at *
 clear hr hcq hone hlen ht hq
 by_cases h12 : q.size = 12
 rotate_left
 ·rw [if_neg h12]
  have hne : ((q.size : Int) = 12) = False := by rw [eq_iff_iff]; exact ⟨fun h => by omega, fun h => h.elim⟩
  have HB := Lib.hid t0.z
  have HD := Lib.hid t0.base
  clear t0
  generalize hbx : W.heap.size = bx at *
  have z0 := At.frozen HB.out 0
  have z1 := At.frozen HB.out 1
  have z2 := At.frozen HB.out 2
  have z3 := At.frozen HB.out 3
  obtain ⟨c0, c1, c2, c3⟩ := HB.out.cells
  go_enter Tryz.func119, Tryz.ntmps119
  go_upto_region 1 with fail
  try rw [← HW.out]
  try rw [hbx]
  go_wp2_with fail
  refine bodyPost_ret (results_cell_tmp_row rfl _ _ (bx + 1) 29 _ (0, 0) _ rfl (bs_over HB.out zer) Tryz.underlying29 rfl (by kernel_rfl)) rfl ?_
  exact ⟨rfl, below_over HD.out (by omega) zer⟩
 rw [if_pos h12]
 have hlt := t0.z.lt
 have hi12 : ((q.size : Nat) : Int) = 12 := by omega
 have hcall := reader_any w1 q
 obtain ⟨n0, hn0⟩ : ∃ n, n = rd4 (bl q) 0 := ⟨_, rfl⟩
 obtain ⟨n4, hn4⟩ : ∃ n, n = rd4 (bl q) 4 := ⟨_, rfl⟩
 obtain ⟨n8, hn8⟩ : ∃ n, n = rd4 (bl q) 8 := ⟨_, rfl⟩
 rw [← hn0, ← hn4, ← hn8]
 have HN := Lib.hid (And.intro hn0 (And.intro hn4 hn8))
 have H12 := Lib.hid h12
 clear hn0 hn4 hn8 h12
 have HT := Lib.hid t0
 clear t0
 generalize hbx : W.heap.size = bx at hcall d0 d1 d2 d3 d4 hlt ⊢
 have HX := Lib.hid hbx
 go_enter Tryz.func119, Tryz.ntmps119
 go_upto_region 1 with fail
 try rw [← HW.out]
 try rw [hbx]
 clear hbx
 go_wp2_with fail
 (with_reducible refine hcall.mono ?_)
 clear hcall d0 d1 d2 d3 d4 hcq1 hi12
 rintro e w2 ⟨x, y, rfl, hr2, hx2, hy2, hb2⟩
 have t2 := HT.out.below hb2
 have hy : y < w2.heap.size := At.lt hr2.b
 have hcall := next_any w2 x y q 0 hr2 (by rw [H12.out]; omega) (by rw [H12.out]; omega)
 rw [← HN.out.1] at hcall
 have HY := Lib.hid (show W.heap.size + 2 ≤ y from by have := HX.out; omega)
 clear hr2 hx2 hy2 hb2 hlt HT
 go_wp2_with fail
 (with_reducible refine hcall.mono ?_)
 clear hcall
 rintro e w3 ⟨rfl, hr3, ho3⟩
 have t3 := t2.only ho3 HY.out hy
 have hy3 : y < w3.heap.size := At.lt hr3.b
 have hcall := next_any w3 x y q 4 hr3 (by rw [H12.out]; omega) (by rw [H12.out]; omega)
 rw [← HN.out.2.1] at hcall
 clear hr3 ho3 t2 hy
 go_wp2_with fail
 (with_reducible refine hcall.mono ?_)
 clear hcall
 rintro e w4 ⟨rfl, hr4, ho4⟩
 have t4 := t3.only ho4 HY.out hy3
 have hy4 : y < w4.heap.size := At.lt hr4.b
 have hcall := next_any w4 x y q 8 hr4 (by rw [H12.out]; omega) (by rw [H12.out]; omega)
 rw [← HN.out.2.2] at hcall
 clear hr4 ho4 t3 hy3
 go_wp2_with fail
 (with_reducible refine hcall.mono ?_)
 clear hcall
 rintro e w5 ⟨rfl, hr5, ho5⟩
 have t5 := t4.only ho5 HY.out hy4
 clear hr5 ho5 t4 hy4
 have hz5 := t5.z
 have hp5 := t5.pg
 have hB5 := t5.base
 rw [HX.out] at hz5 hp5 hB5
 clear t5
 obtain ⟨d0, d1, d2, d3, d4⟩ := five hp5
 have z0 := At.frozen hz5 0
 have z1 := At.frozen hz5 1
 have z2 := At.frozen hz5 2
 have z3 := At.frozen hz5 3
 obtain ⟨c0, c1, c2, c3⟩ := hz5.cells
 go_wp2_with fail
 refine bodyPost_ret (results_cell_tmp_row rfl _ _ (bx + 1) 29 _ (0, 0) _ rfl (bs_over hz5 ⟨p.epoch, n0, n4, n8⟩) Tryz.underlying29 rfl (by kernel_rfl)) rfl ?_
 exact ⟨rfl, below_over hB5 (by omega) ⟨p.epoch, n0, n4, n8⟩⟩
end Go.Proofs.YtpidnkfcccboaaaGreat.SuperTold
