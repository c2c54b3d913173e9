/-
  code.number, walked.
-/
import Derived.Test.YtkpahhioiefcbaaMb5
namespace Go.Proofs.Ytkpahhioiefcbaa
open Go.RowKit Go.Shelf Cod
set_option linter.unusedVariables false
set_option maxRecDepth 100000
attribute [local go_sem] Oper.semAt_some wide_fn wide_depth

def sumP : List Dig → Nat
  | [] => 0
  | x :: r => x.1.1 + 128 * sumP r
theorem sumP_snoc : ∀ (r : List Dig) (x : Dig), sumP (r ++ [x]) = sumP r + x.1.1 * 128 ^ r.length
  | [], x => by simp [sumP]
  | y :: r, x => by
    show y.1.1 + 128 * sumP (r ++ [x]) = y.1.1 + 128 * sumP r + x.1.1 * 128 ^ (r.length + 1)
    rw [sumP_snoc r x, Nat.mul_add, Nat.pow_succ, Nat.add_assoc, Nat.mul_comm 128 (x.1.1 * _), Nat.mul_assoc]
theorem sumP_upto (z : Nat → Nat) : ∀ k, sumP (upto z k) = val z k
  | 0 => rfl
  | k + 1 => by rw [upto_succ, sumP_snoc, sumP_upto z k, upto_len]; rfl
/-- Between two rounds. -/
structure On (top : Nat) (pre : List Dig) : Prop where
  len : pre.length ≤ 9
  sum : sumP pre ≤ top
  more : ∀ x ∈ pre, x.1.2 = false
/-- The blocks: the top, the three results, the sum, the length. -/
structure NumSt (a : Nat) (W : World) (top r0 r1 r2 s l : Nat) : Prop where
  b0 : Boxed W a 74 (.int .u64 (top : Int))
  b1 : Boxed W (a + 1) 74 (.int .u64 (r0 : Int))
  b2 : Boxed W (a + 1 + 1) /-t-/3 (.int .i64 (r1 : Int))
  b3 : Boxed W (a + 1 + 1 + 1) 25 (.int .i64 (r2 : Int))
  b4 : Boxed W (a + 1 + 1 + 1 + 1) 74 (.int .u64 (s : Int))
  b5 : Boxed W (a + 1 + 1 + 1 + 1 + 1) /-t-/3 (.int .i64 (l : Int))
theorem NumSt.grown {a : Nat} {W W' : World} {top r0 r1 r2 s l : Nat} {row : Option Nat} (h : NumSt a W top r0 r1 r2 s l) (hg : W.grownBy W' row) (hr : ∀ r, row = some r → ∃ o : Obj, W.heap[r]? = some o ∧ o.isCells = false) : NumSt a W' top r0 r1 r2 s l := by
  have hc : ∀ {j t v}, Boxed W j t v → some j ≠ row := fun {j t v} hj e => by
    obtain ⟨o, ho, hc⟩ := hr j e.symm
    rw [show W.heap[j]? = _ from hj] at ho
    cases ho
    cases hc
  exact ⟨h.b0.kept hg (hc h.b0), h.b1.kept hg (hc h.b1), h.b2.kept hg (hc h.b2), h.b3.kept hg (hc h.b3), h.b4.kept hg (hc h.b4), h.b5.kept hg (hc h.b5)⟩
theorem boxed_off {W : World} {B j t : Nat} {u v : Value} (h : Boxed W j t u) (hj : j ≠ B) : Boxed (W.setCell ⟨B, 0, none⟩ v) j t u := h.kept (grownBy_setCell' W B v) (fun e => hj (by injection e))
theorem NumSt.long {a : Nat} {W : World} {top r0 r1 r2 s l : Nat} (h : NumSt a W top r0 r1 r2 s l) (m : Nat) : NumSt a (W.setCell ⟨a + 1 + 1 + 1 + 1 + 1, 0, none⟩ (.int .i64 (m : Int))) top r0 r1 r2 s m :=
  ⟨boxed_off h.b0 (by omega), boxed_off h.b1 (by omega), boxed_off h.b2 (by omega), boxed_off h.b3 (by omega), boxed_off h.b4 (by omega), h.b5.set _⟩
theorem NumSt.sums {a : Nat} {W : World} {top r0 r1 r2 s l : Nat} (h : NumSt a W top r0 r1 r2 s l) (m : Nat) : NumSt a (W.setCell ⟨a + 1 + 1 + 1 + 1, 0, none⟩ (.int .u64 (m : Int))) top r0 r1 r2 m l :=
  ⟨boxed_off h.b0 (by omega), boxed_off h.b1 (by omega), boxed_off h.b2 (by omega), boxed_off h.b3 (by omega), h.b4.set _, boxed_off h.b5 (by omega)⟩
theorem NumSt.outs {a : Nat} {W : World} {top r0 r1 r2 s l : Nat} (h : NumSt a W top r0 r1 r2 s l) (m0 m1 m2 : Nat) :
    NumSt a (((W.setCell ⟨a + 1, 0, none⟩ (.int .u64 (m0 : Int))).setCell ⟨a + 1 + 1, 0, none⟩ (.int .i64 (m1 : Int))).setCell ⟨a + 1 + 1 + 1, 0, none⟩ (.int .i64 (m2 : Int))) top m0 m1 m2 s l :=
  ⟨boxed_off (boxed_off (boxed_off h.b0 (by omega)) (by omega)) (by omega), boxed_off (boxed_off (h.b1.set _) (by omega)) (by omega), boxed_off ((boxed_off h.b2 (by omega)).set _) (by omega),
    (boxed_off (boxed_off h.b3 (by omega)) (by omega)).set _, boxed_off (boxed_off (boxed_off h.b4 (by omega)) (by omega)) (by omega), boxed_off (boxed_off (boxed_off h.b5 (by omega)) (by omega)) (by omega)⟩
def NumI (w : World) (top : Nat) (pre : List Dig) (W : World) : Prop := (NumSt w.heap.size W top 0 0 0 (sumP pre) pre.length ∧ On top pre) ∧ Below w.heap.size w W
/-- How a round leaves. -/
def Out3 (top : Nat) (ini : List Dig) (x : Dig) (r0 r1 r2 : Nat) : Prop :=
  (badB top (sumP ini) ini.length x.1.1 x.1.2 = true ∧ r0 = 0 ∧ r1 = 0 ∧ r2 = 7) ∨
  (badB top (sumP ini) ini.length x.1.1 x.1.2 = false ∧ x.1.2 = true ∧ r0 = sumP ini + x.1.1 * 128 ^ ini.length ∧ r1 = ini.length + 1 ∧ r2 = 0)
def NumX (w : World) (top : Nat) (c : Code) (pre : List Dig) (W : World) : Prop :=
  (c = .ret ∧ ∃ ini x r0 r1 r2 s l, pre = ini ++ [x] ∧ On top ini ∧ Out3 top ini x r0 r1 r2 ∧ NumSt w.heap.size W top r0 r1 r2 s l) ∧ Below w.heap.size w W
theorem boxed_at {W : World} {t a : Nat} {v : Value} (h : W.heap.size = a) : Boxed (W.alloc (.cells #[v] t)) a t v := h ▸ Boxed.new W t v
theorem pow_is (N : Nat) : ((2 : Int) ^ (7 * N)) = ((128 ^ N : Nat) : Int) := by
  have h : (2 : Nat) ^ (7 * N) = 128 ^ N := by rw [Nat.pow_mul]
  rw [← h]
  simp
theorem shr_is {top S : Nat} (N : Nat) (h : S ≤ top) (ht : top < 18446744073709551616) : IntKind.u64.wrap ((top : Int) - (S : Int)) / 2 ^ (7 * N) = (((top - S) / 128 ^ N : Nat) : Int) := by
  rw [IntWalk.u64_in _ (by omega), pow_is, show (top : Int) - (S : Int) = ((top - S : Nat) : Int) by omega]
  exact (Int.natCast_ediv _ _).symm
theorem shl_is {top S d N : Nat} (h : S + d * 128 ^ N ≤ top) (ht : top < 18446744073709551616) : IntKind.u64.wrap ((S : Int) + IntKind.u64.wrap ((d : Int) * 2 ^ (7 * N))) = ((S + d * 128 ^ N : Nat) : Int) := by
  have e : (d : Int) * 2 ^ (7 * N) = ((d * 128 ^ N : Nat) : Int) := by rw [pow_is]; exact (Int.natCast_mul _ _).symm
  rw [e]
  generalize d * 128 ^ N = q at h ⊢
  rw [IntWalk.u64_in (q : Int) (by omega), IntWalk.u64_in _ (by omega)]
  omega
def st5 (w W : World) (N : Nat) : World := W.setCell ⟨w.heap.size + 1 + 1 + 1 + 1 + 1, 0, none⟩ (.int .i64 ((N : Int) + 1))
def st4 (w W : World) (q : Int) : World := W.setCell ⟨w.heap.size + 1 + 1 + 1 + 1, 0, none⟩ (.int .u64 q)
def st3 (w W : World) (x0 x1 x2 : Int) : World := ((W.setCell ⟨w.heap.size + 1, 0, none⟩ (.int .u64 x0)).setCell ⟨w.heap.size + 1 + 1, 0, none⟩ (.int .i64 x1)).setCell ⟨w.heap.size + 1 + 1 + 1, 0, none⟩ (.int .i64 x2)
theorem st5_below (w W : World) (N : Nat) : Below w.heap.size W (st5 w W N) := (Below.refl _ W).setCell (by simp; omega) _
theorem st4_below (w W : World) (q : Int) : Below w.heap.size W (st4 w W q) := (Below.refl _ W).setCell (by simp; omega) _
theorem st3_below (w W : World) (x0 x1 x2 : Int) : Below w.heap.size W (st3 w W x0 x1 x2) := (((Below.refl _ W).setCell (by simp) _).setCell (by simp; omega) _).setCell (by simp; omega) _
theorem st5_keeps (w W : World) (N : Nat) : KeepsOthers W (st5 w W N) := KeepsOthers.setCell _ _ _
theorem st4_keeps (w W : World) (q : Int) : KeepsOthers W (st4 w W q) := KeepsOthers.setCell _ _ _
theorem st3_keeps (w W : World) (x0 x1 x2 : Int) : KeepsOthers W (st3 w W x0 x1 x2) := ((KeepsOthers.setCell _ _ _).trans (KeepsOthers.setCell _ _ _)).trans (KeepsOthers.setCell _ _ _)
theorem num_bad {w W : World} {top : Nat} {pre : List Dig} {x : Dig} {S N B0 : Nat} (hst : NumSt w.heap.size W top 0 0 0 S N) (hon : On top pre) (hb : Below w.heap.size w W) (hS : S = sumP pre) (hN : N = pre.length) (hbad : badB top S N x.1.1 x.1.2 = true) :
    KeepsFrom B0 W (st3 w (st5 w W N) 0 0 7) ∧ NumX w top .ret (pre ++ [x]) (st3 w (st5 w W N) 0 0 7) := by
  refine ⟨((st5_keeps w W N).trans (st3_keeps w _ 0 0 7)).from _, ⟨rfl, pre, x, 0, 0, 7, S, N + 1, rfl, hon, Or.inl ⟨by rw [← hS, ← hN]; exact hbad, rfl, rfl, rfl⟩, (hst.long (N + 1)).outs 0 0 7⟩, (hb.trans (st5_below w W N)).trans (st3_below w _ 0 0 7)⟩
theorem NumSt.drew {a : Nat} {W : World} {top r0 r1 r2 s l : Nat} (h : NumSt a W top r0 r1 r2 s l) : NumSt a W.drew top r0 r1 r2 s l := ⟨h.b0, h.b1, h.b2, h.b3, h.b4, h.b5⟩
theorem num_on {w W : World} {top : Nat} {pre : List Dig} {x : Dig} {S N B0 : Nat} {q : Int} (hst : NumSt w.heap.size W top 0 0 0 S N) (hon : On top pre) (hb : Below w.heap.size w W) (hS : S = sumP pre) (hN : N = pre.length) (hx : x.1.2 = false) (h : N + 1 ≤ 9 ∧ S + x.1.1 * 128 ^ N ≤ top) (hq : q = ((S + x.1.1 * 128 ^ N : Nat) : Int)) :
    KeepsFrom B0 W (st4 w (st5 w W N) q).drew ∧ Below w.heap.size W (st4 w (st5 w W N) q).drew ∧ NumI w top (pre ++ [x]) (st4 w (st5 w W N) q).drew := by
  subst hq
  have h1 := ((st5_below w W N).trans (st4_below w (st5 w W N) ((S + x.1.1 * 128 ^ N : Nat) : Int))).drew
  refine ⟨(((st5_keeps w W N).trans (st4_keeps w _ _)).trans (KeepsOthers.drew _)).from _, h1, ⟨?_, ?_⟩, hb.trans h1⟩
  · rw [sumP_snoc, ← hS, ← hN, List.length_append, ← hN, List.length_singleton]
    exact ((hst.long (N + 1)).sums _).drew
  · refine ⟨by rw [List.length_append, ← hN]; exact h.1, by rw [sumP_snoc, ← hS, ← hN]; exact h.2, fun y hy => ?_⟩
    rcases List.mem_append.1 hy with hy | hy
    · exact hon.more y hy
    · have : y = x := by simpa using hy
      rw [this]; exact hx
theorem badB_last (top S N d : Nat) : badB top S N d true = ((decide (d = 0) && decide (0 < N)) || decide ((top - S) / 128 ^ N < d)) := by unfold badB; simp
theorem on_top {top S N d : Nat} (hs : S ≤ top) (hb : badB top S N d true = false) : S + d * 128 ^ N ≤ top := by
  rw [badB_last] at hb
  simp only [Bool.or_eq_false_iff, decide_eq_false_iff_not] at hb
  have h3 := hb.2
  rw [Nat.not_lt, Nat.le_div_iff_mul_le (Nat.pow_pos (by omega))] at h3
  omega
theorem num_ok {w W : World} {top : Nat} {pre : List Dig} {x : Dig} {S N B0 : Nat} {q p : Int} (hst : NumSt w.heap.size W top 0 0 0 S N) (hon : On top pre) (hb : Below w.heap.size w W) (hS : S = sumP pre) (hN : N = pre.length) (hx : x.1.2 = true) (hbad : badB top S N x.1.1 x.1.2 = false) (hq : q = ((S + x.1.1 * 128 ^ N : Nat) : Int)) (hp : p = ((N + 1 : Nat) : Int)) :
    KeepsFrom B0 W (st3 w (st4 w (st5 w W N) q) q p 0).drew.drew ∧ NumX w top .ret (pre ++ [x]) (st3 w (st4 w (st5 w W N) q) q p 0).drew.drew := by
  subst hq
  subst hp
  have h1 := (((((st5_below w W N).trans (st4_below w (st5 w W N) ((S + x.1.1 * 128 ^ N : Nat) : Int)))).trans (st3_below w _ ((S + x.1.1 * 128 ^ N : Nat) : Int) ((N + 1 : Nat) : Int) 0)).drew).drew
  refine ⟨(((((st5_keeps w W N).trans (st4_keeps w _ _)).trans (st3_keeps w _ _ _ _)).trans (KeepsOthers.drew _)).trans (KeepsOthers.drew _)).from _, ⟨rfl, pre, x, S + x.1.1 * 128 ^ N, N + 1, 0, S + x.1.1 * 128 ^ N, N + 1, rfl, hon, Or.inr ⟨by rw [← hS, ← hN]; exact hbad, hx, by rw [← hS, ← hN], by rw [← hN], rfl⟩, ?_⟩, hb.trans h1⟩
  exact ((((hst.long (N + 1)).sums _).outs _ _ 0).drew).drew
theorem numI_own (w : World) (top k : Nat) (hk : w.heap.size ≤ k) : OwnFrom k (NumI w top) :=
  OwnFrom.and (Own.from (fun s A B row hs hg hr => ⟨hs.1.grown hg hr, hs.2⟩) _) (ownFrom_below (Nat.le_refl _) hk)
theorem numX_own (w : World) (top k : Nat) (hk : w.heap.size ≤ k) (c : Code) : OwnFrom k (NumX w top c) :=
  OwnFrom.and (Own.from (fun s A B row hs hg hr => by
    obtain ⟨hc, ini, x, r0, r1, r2, q, l, e, ho, h3, hst⟩ := hs
    exact ⟨hc, ini, x, r0, r1, r2, q, l, e, ho, h3, hst.grown hg hr⟩) _) (ownFrom_below (Nat.le_refl _) hk)
theorem badB_more (top S N d : Nat) : badB top S N d false = (decide (N = 9) || decide ((top - S) / 128 ^ N < d)) := by unfold badB; simp
theorem num_results {a : Nat} {W : World} {top r0 r1 r2 s l : Nat} (h : NumSt a W top r0 r1 r2 s l) {tmps : Array Value} (h4 : tmps[4]?.getD undef = .pointer (some ⟨a + 1, 0, none⟩) := by rfl) (h5 : tmps[5]?.getD undef = .pointer (some ⟨a + 1 + 1, 0, none⟩) := by rfl) (h6 : tmps[6]?.getD undef = .pointer (some ⟨a + 1 + 1 + 1, 0, none⟩) := by rfl) :
    (results Try.f51 tmps).run Try.prog W = .ok (.tuple #[.int .u64 (r0 : Int), .int .i64 (r1 : Int), .int .i64 (r2 : Int)]) W := by
  have c1 := h.b1.cell
  have c2 := h.b2.cell
  have c3 := h.b3.cell
  simp [results, Try.results51, go_sem, h4, h5, h6, c1, c2, c3]
set_option maxHeartbeats 2000000 in
set_option maxRecDepth 100000 in
theorem number_any (A : Option Addr) (n C : Nat) (z : Nat → Nat) (top k e : Nat) (w : World) (h : RowV w (.slice A n C) n z) (ht : 9223372036854775807 ≤ top) (ht2 : top < 18446744073709551616) (hr : Rd n z k e) :
    Calls Try.prog 51 #[.slice A n C, .int .u64 (top : Int)] w fun en w' => en = .returned (.tuple #[.int .u64 (resV top z k e : Int), .int .i64 (resK top z k e : Int), .int .i64 (resE top z k e : Int)]) ∧ Ch (fun _ => False) w w' := by
  have HV := Lib.hid h
  have HT := Lib.hid ht
  have HT2 := Lib.hid ht2
  have HD := Lib.hid hr
  clear h ht ht2 hr
  refine (callsIn_wide (n := 9)).1 ?_
  refine callsIn_of_wp_marks Try.func51 rfl trivial ?_ rfl
  simp only [Try.ntmps51, List.size_toArray, List.length_cons, List.length_nil, Nat.reduceAdd, Nat.reduceSub, Array.replicate_succ, Array.replicate_zero, List.push_toArray, List.append_toArray, List.nil_append, List.cons_append]
  gi_wp2_with (gi_at_call 61; refine (callsIn_wide.2 (digitsOf_any _ _ _ _)).mono ?_; rintro e w' ⟨rfl, rfl⟩)
  obtain ⟨W0, hW0⟩ : ∃ W0, (((((w.alloc (.cells #[.int .u64 (top : Int)] 74)).alloc (.cells #[.int .u64 0] 74)).alloc (.cells #[.int .i64 0] /-t-/3)).alloc (.cells #[.int .i64 0] 25)).alloc (.cells #[.int .u64 0] 74)).alloc (.cells #[.int .i64 0] /-t-/3) = W0 := ⟨_, rfl⟩
  have hz0 : W0.heap.size = w.heap.size + 1 + 1 + 1 + 1 + 1 + 1 := by rw [← hW0]; simp
  have hst0 : NumSt w.heap.size W0 top 0 0 0 0 0 := by
    rw [← hW0]
    refine ⟨?_, ?_, ?_, ?_, ?_, ?_⟩
    · exact (((((boxed_at rfl).alloc _).alloc _).alloc _).alloc _).alloc _
    · exact ((((boxed_at (by simp)).alloc _).alloc _).alloc _).alloc _
    · exact (((boxed_at (by simp)).alloc _).alloc _).alloc _
    · exact ((boxed_at (by simp)).alloc _).alloc _
    · exact (boxed_at (by simp)).alloc _
    · exact boxed_at (by simp)
  have hb0 : Below w.heap.size w W0 := by
    rw [← hW0]
    exact ((((((Below.refl _ w).alloc (Nat.le_refl _) _).alloc (by simp) _).alloc (by simp; omega) _).alloc (by simp; omega) _).alloc (by simp; omega) _).alloc (by simp; omega) _
  have hb1 : Below w.heap.size w (W0.alloc (.cells #[.slice A n C] /-t-/22)) := hb0.alloc (by rw [hz0]; omega) _
  rw [hW0]
  clear hW0
  refine wpIn_rangeFunc_ownG rfl (by omega) (gf := 72) (lb := #[.pointer (some ⟨w.heap.size + 1 + 1 + 1 + 1 + 1 + 1, 0, none⟩)]) rfl trivial (enters_of Try.func72 (by kernel_rfl) rfl)
    (digsOf_stops 8 (by omega) (w.heap.size + 1 + 1 + 1 + 1 + 1 + 1) w.heap.size n C A z _ (by simp; omega) (boxed_at hz0).cell (HV.out.off (Below.ch hb1 (fun i => w.heap.size ≤ i)) HV.out.low) HV.out.low) belowK_t (belowK_b (by simp; omega)) (Below.refl _ _) (fun _ => rfl)
    (NumI w top) (NumX w top) ?own ?ownx ?start
    (fun x => { tmps := #[.slice A n C, .int .u64 (top : Int), undef, .pointer (some ⟨w.heap.size, 0, none⟩), .pointer (some ⟨w.heap.size + 1, 0, none⟩), .pointer (some ⟨w.heap.size + 1 + 1, 0, none⟩), .pointer (some ⟨w.heap.size + 1 + 1 + 1, 0, none⟩), .pointer (some ⟨w.heap.size + 1 + 1 + 1 + 1, 0, none⟩), .pointer (some ⟨w.heap.size + 1 + 1 + 1 + 1 + 1, 0, none⟩),
      .int .u64 (x.1.1 : Int), .bool x.1.2, undef, undef, undef, .slice A n C, .func (.func 72) #[] #[.pointer (some ⟨w.heap.size + 1 + 1 + 1 + 1 + 1 + 1, 0, none⟩)], .int .u64 (x.1.1 : Int), .bool x.1.2, undef, undef, undef, undef, undef, undef, undef, undef, undef, undef, undef, undef, undef, undef, undef, undef, undef, undef, undef, undef, undef, undef, undef, undef, undef, undef, undef, undef, undef, undef, undef, undef, undef, undef, undef, undef, undef, undef, undef, undef], defers := [] }) ?assign ?body ?done ?stop
  case own => exact numI_own w top _ (by simp; omega)
  case ownx => exact fun c => numX_own w top _ (by simp; omega) c
  case start => exact ⟨⟨hst0.grown (World.grownBy_alloc _ _ none) (fun r e => by cases e), ⟨Nat.zero_le _, Nat.zero_le _, fun x hx => by cases hx⟩⟩, hb1⟩
  case assign =>
    intro l x W K hK
    gi_wp2
    exact hK
  case body =>
    rintro l pre ⟨⟨d, last⟩, hd⟩ W ⟨⟨hst, hon⟩, hb⟩ hlen
    have c0 := hst.b0.cell
    have c4 := hst.b4.cell
    have c5 := hst.b5.cell
    have f4 := hst.b4.frozen
    have f5 := hst.b5.frozen
    have f1 := hst.b1.frozen
    have f2 := hst.b2.frozen
    have f3 := hst.b3.frozen
    have c1 := hst.b1.cell
    have c2 := hst.b2.cell
    have c3 := hst.b3.cell
    have hk9 := hon.len
    dsimp only at hd
    have HST := Lib.hid hst
    have HON := Lib.hid hon
    have HB := Lib.hid hb
    clear hst hon hb hb0 hst0
    obtain ⟨S, hS⟩ : ∃ S, S = sumP pre := ⟨_, rfl⟩
    obtain ⟨N, hN⟩ : ∃ N, N = pre.length := ⟨_, rfl⟩
    rw [← hS] at c4 HST
    rw [← hN] at c5 hk9 HST hlen
    have HSS := Lib.hid hS
    have HNN := Lib.hid hN
    clear hS hN
    have hSt : S ≤ top := by rw [HSS.out]; exact HON.out.sum
    have HSH := Lib.hid (shr_is N hSt HT2.out)
    have HBL := Lib.hid (badB_last top S N d)
    have HBM := Lib.hid (badB_more top S N d)
    clear hSt hb1
    obtain ⟨q, hq⟩ : ∃ q, q = (top - S) / 128 ^ N := ⟨_, rfl⟩
    rw [← hq] at HSH HBL HBM
    clear hq
    by_cases h3 : q < d
    · have t3 : decide (IntKind.u64.wrap ((top : Int) - (S : Int)) / 2 ^ (7 * N) < (d : Int)) = true := by rw [HSH.out]; simp; omega
      have hbad : badB top S N d last = true := by
        cases last
        · rw [HBM.out]; simp [h3]
        · rw [HBL.out]; simp [h3]
      have HE := Lib.hid (num_bad (x := ⟨(d, last), hd⟩) (B0 := (W0.alloc (.cells #[.slice A n C] /-t-/22)).heap.size) HST.out HON.out HB.out HSS.out HNN.out hbad)
      clear h3 hbad
      cases last with
      | true =>
        by_cases hi : d = 0 ∧ 0 < N
        · have t1 : ((d : Int) == 0) = true := by simp; omega
          have t2 : decide ((1 : Int) < (N : Int) + 1) = true := by simp; omega
          clear hi
          rcases Bool.eq_false_or_eq_true ((N : Int) + 1 == 10) with t0 | t0 <;> (gi_wp2; exact HE.out)
        · by_cases hj : d = 0
          · have t1 : ((d : Int) == 0) = true := by simp; omega
            have t2 : decide ((1 : Int) < (N : Int) + 1) = false := by simp; omega
            clear hi hj
            rcases Bool.eq_false_or_eq_true ((N : Int) + 1 == 10) with t0 | t0 <;> (gi_wp2; exact HE.out)
          · have t1 : ((d : Int) == 0) = false := by simp; omega
            clear hi hj
            rcases Bool.eq_false_or_eq_true ((N : Int) + 1 == 10) with t0 | t0 <;> (gi_wp2; exact HE.out)
      | false =>
        by_cases h9 : N = 9
        · have t1 : ((N : Int) + 1 == 10) = true := by simp; omega
          clear h9
          gi_wp2
          exact HE.out
        · have t1 : ((N : Int) + 1 == 10) = false := by simp; omega
          clear h9
          gi_wp2
          exact HE.out
    · have t3 : decide (IntKind.u64.wrap ((top : Int) - (S : Int)) / 2 ^ (7 * N) < (d : Int)) = false := by rw [HSH.out]; simp; omega
      cases last with
      | true =>
        by_cases hi : d = 0 ∧ 0 < N
        · have t1 : ((d : Int) == 0) = true := by simp; omega
          have t2 : decide ((1 : Int) < (N : Int) + 1) = true := by simp; omega
          have hbad : badB top S N d true = true := by rw [HBL.out]; simp [hi]
          have HE := Lib.hid (num_bad (x := ⟨(d, true), hd⟩) (B0 := (W0.alloc (.cells #[.slice A n C] /-t-/22)).heap.size) HST.out HON.out HB.out HSS.out HNN.out hbad)
          clear hi hbad h3
          rcases Bool.eq_false_or_eq_true ((N : Int) + 1 == 10) with t0 | t0 <;> (gi_wp2; exact HE.out)
        · have hbad : badB top S N d true = false := by rw [HBL.out]; simp [h3]; omega
          have hsum := on_top (by rw [HSS.out]; exact HON.out.sum) hbad
          have HSL := Lib.hid (shl_is hsum HT2.out)
          have HE := Lib.hid (fun B0 : Nat => num_ok (x := ⟨(d, true), hd⟩) (p := (N : Int) + 1) (B0 := B0) HST.out HON.out HB.out HSS.out HNN.out rfl hbad (shl_is hsum HT2.out) rfl)
          clear hbad hsum h3
          have t1 : (((d : Int) == 0) && decide ((1 : Int) < (N : Int) + 1)) = false := by simp; omega
          obtain ⟨V, hV⟩ : ∃ V, V = IntKind.u64.wrap ((S : Int) + IntKind.u64.wrap ((d : Int) * 2 ^ (7 * N))) := ⟨_, rfl⟩
          rw [← hV] at HE
          have HV := Lib.hid hV
          clear hV
          rcases Bool.eq_false_or_eq_true ((N : Int) + 1 == 10) with t0 | t0 <;> rcases Bool.eq_false_or_eq_true ((d : Int) == 0) with t4 | t4 <;> rcases Bool.eq_false_or_eq_true (decide ((1 : Int) < (N : Int) + 1)) with t5 | t5
          any_goals (rw [t4, t5] at t1; cases t1)
          all_goals
            obtain ⟨W1, hW1⟩ : ∃ W1, W1 = st5 w W N := ⟨_, rfl⟩
            have hst5 : NumSt w.heap.size W1 top 0 0 0 S (N + 1) := by rw [hW1]; exact HST.out.long (N + 1)
            have HW1 := Lib.hid hW1
            have d4 := hst5.b4.cell
            have g4 := hst5.b4.frozen
            clear hst5 hW1
            gi_wp2
            rw [show W.setCell ⟨w.heap.size + 1 + 1 + 1 + 1 + 1, 0, none⟩ (.int .i64 ((N : Int) + 1)) = W1 from HW1.out.symm]
            refine wpIn_round_tail 5 (by kernel_rfl) (by kernel_rfl) (fun ⟨_, _, h⟩ => h) (by kernel_rfl) ?_
            simp only [List.take_succ_cons, List.take_zero, List.drop_succ_cons, List.drop_zero]
            repeat still_step
            refine wpStill_nil ?_
            go_wp2
            rw [HW1.out]
            rw [← HV.out]
            obtain ⟨W2, hW2⟩ : ∃ W2, W2 = (st4 w (st5 w W N) V).drew := ⟨_, rfl⟩
            have hst4 : NumSt w.heap.size W2 top 0 0 0 (S + d * 128 ^ N) (N + 1) := by rw [hW2, HV.out, HSL.out]; exact ((HST.out.long (N + 1)).sums _).drew
            have HW2 := Lib.hid hW2
            have m4 : W2.cell? ⟨w.heap.size + 1 + 1 + 1 + 1, 0, none⟩ = some (.int .u64 V) := by rw [HV.out, HSL.out]; exact hst4.b4.cell
            have m5 := hst4.b5.cell
            have m1 := hst4.b1.cell
            have m2 := hst4.b2.cell
            have m3 := hst4.b3.cell
            have n1 := hst4.b1.frozen
            have n2 := hst4.b2.frozen
            have n3 := hst4.b3.frozen
            clear hst4 hW2
            rw [show ((st5 w W N).setCell ⟨w.heap.size + 1 + 1 + 1 + 1, 0, none⟩ (.int .u64 V)).drew = W2 from HW2.out.symm]
            gi_wp2
            refine wpIn_round_held (fun W' => W'.cell? ⟨w.heap.size + 1 + 1 + 1 + 1, 0, none⟩ = some (.int .u64 V) ∧ W'.cell? ⟨w.heap.size + 1 + 1 + 1 + 1 + 1, 0, none⟩ = some (.int .i64 ((N : Int) + 1))) (by kernel_rfl) (by kernel_rfl) (fun ⟨_, _, h⟩ => h) ?_
            change wpAnyH _ _ _ _ _ _ _ _ (World.drew _)
            have HS : (fun W' : World => W'.cell? ⟨w.heap.size + 1 + 1 + 1 + 1, 0, none⟩ = some (.int .u64 V) ∧ W'.cell? ⟨w.heap.size + 1 + 1 + 1 + 1 + 1, 0, none⟩ = some (.int .i64 ((N : Int) + 1))) W2.drew := ⟨m4, m5⟩
            refine wpAnyH_take (i := 0) (oi := { dst := some 56, op := .load 74 (.tmp 7), type := _, pos := _, after := _, guard := none }) (v := .int .u64 V) rfl (by kernel_rfl) (by kernel_rfl) (by kernel_rfl) (fun _ _ _ h => h) (Or.inl ⟨by rfl, fun w' hS => ?_⟩) HS ?_
            · obtain ⟨hS1, _⟩ := hS
              go_simp
            refine wpAnyH_take (i := 1) (oi := { dst := some 57, op := .load /-t-/3 (.tmp 8), type := _, pos := _, after := _, guard := none }) (v := .int .i64 ((N : Int) + 1)) rfl (by kernel_rfl) (by kernel_rfl) (by kernel_rfl) (fun _ _ _ h => h) (Or.inl ⟨by rfl, fun w' hS => ?_⟩) HS ?_
            · obtain ⟨_, hS1⟩ := hS
              go_simp
            simp only [Act.put, List.setIfInBounds_toArray, List.set_cons_zero, List.set_cons_succ]
            refine wpAnyH_ready (rs := [2]) (by kernel_rfl) (by simp) ?_
            refine AllReadyH.cons rfl (fun K hK => ?_) AllReadyH.nil
            go_simp
            refine hK.out _ _ ⟨by go_simp, by go_simp⟩ (fun _ => ?_)
            clear hK K
            refine wpAnyH_ready (rs := [3]) (by kernel_rfl) (by simp) ?_
            refine AllReadyH.cons rfl (fun K hK => ?_) AllReadyH.nil
            go_simp
            refine hK.out _ _ ⟨by go_simp, by go_simp⟩ (fun _ => ?_)
            clear hK K
            refine wpAnyH_ready (rs := [4]) (by kernel_rfl) (by simp) ?_
            refine AllReadyH.cons rfl (fun K hK => ?_) AllReadyH.nil
            go_simp
            refine hK.out _ _ ⟨by go_simp, by go_simp⟩ (fun _ => ?_)
            clear hK K
            refine wpAnyH_done (by kernel_rfl) ?_ _
            rw [HW2.out]
            gi_wp2
            exact HE.out _
      | false =>
        by_cases h9 : N = 9
        · have t1 : ((N : Int) + 1 == 10) = true := by simp; omega
          have hbad : badB top S N d false = true := by rw [HBM.out]; simp [h9]
          have HE := Lib.hid (num_bad (x := ⟨(d, false), hd⟩) (B0 := (W0.alloc (.cells #[.slice A n C] /-t-/22)).heap.size) HST.out HON.out HB.out HSS.out HNN.out hbad)
          clear h9 hbad h3
          gi_wp2
          exact HE.out
        · have t1 : ((N : Int) + 1 == 10) = false := by simp; omega
          have hbad : badB top S N d false = false := by rw [HBM.out]; simp [h3, h9]
          have hon2 := on_is (by rw [HSS.out]; exact HON.out.sum) hk9 hbad
          have HE := Lib.hid (num_on (x := ⟨(d, false), hd⟩) (B0 := (W0.alloc (.cells #[.slice A n C] /-t-/22)).heap.size) HST.out HON.out HB.out HSS.out HNN.out rfl hon2 (shl_is hon2.2 HT2.out))
          clear hon2 hbad h3 h9
          obtain ⟨W1, hW1⟩ : ∃ W1, W1 = st5 w W N := ⟨_, rfl⟩
          have hst5 : NumSt w.heap.size W1 top 0 0 0 S (N + 1) := by rw [hW1]; exact HST.out.long (N + 1)
          have HW1 := Lib.hid hW1
          have d4 := hst5.b4.cell
          have g4 := hst5.b4.frozen
          clear hst5 hW1
          gi_wp2
          rw [show W.setCell ⟨w.heap.size + 1 + 1 + 1 + 1 + 1, 0, none⟩ (.int .i64 ((N : Int) + 1)) = W1 from HW1.out.symm]
          refine wpIn_round_tail 5 (by kernel_rfl) (by kernel_rfl) (fun ⟨_, _, h⟩ => h) (by kernel_rfl) ?_
          simp only [List.take_succ_cons, List.take_zero, List.drop_succ_cons, List.drop_zero]
          repeat still_step
          refine wpStill_nil ?_
          go_wp2
          rw [HW1.out]
          gi_wp2
          exact HE.out
  case done =>
    rintro D xs W hD ⟨m, hm, rfl, hend⟩ ⟨⟨hst, hon⟩, hb⟩ hK
    have hz : ∀ i, i < m → 128 ≤ z i := fun i hi => by
      have h1 := hon.more (dig z i) (List.mem_map.2 ⟨i, List.mem_range.2 hi, rfl⟩)
      have h2 : decide (z i < 128) = false := h1
      have h3 := of_decide_eq_false h2
      omega
    have hmn : m = n := by
      rcases hend with h1 | ⟨j, h1, h2⟩
      · exact h1
      · have := hz j h1; omega
    subst hmn
    have hs : Rd m z 0 6 := rd_short (by have := hon.len; rwa [upto_len] at this) hz
    obtain ⟨rfl, rfl⟩ := rd_one HD.out hs
    have n1 := hst.b1.frozen
    have n2 := hst.b2.frozen
    have n3 := hst.b3.frozen
    have m1 := hst.b1.cell
    have m2 := hst.b2.cell
    have m3 := hst.b3.cell
    have hK' := (st3_keeps w W 0 0 6).same D _ hK rfl
    have HF := Lib.hid ((hst.outs 0 0 6).grown (grownBy_putObj' _ D (.deferred none)) (fun r e => by cases e; exact ⟨_, hK', rfl⟩))
    have HB := Lib.hid ((hb.trans (st3_below w W 0 0 6)).trans (belowK_b (w := w) (Nat.le_refl _) _ D _ (.deferred none) (by simp at hD; omega) hK' rfl rfl))
    gi_wp2
    refine ⟨by simp, .inl ⟨_, _, rfl, run_takeDeferred hK', ?_⟩⟩
    exact ⟨_, num_results HF.out, rfl, Below.ch HB.out _⟩
  case stop =>
    rintro D c pre W hD ⟨m, hm, rfl⟩ ⟨⟨rfl, ini, x, r0, r1, r2, s, l, he, hon, hout, hst⟩, hb⟩ hK
    rw [upto_succ] at he
    obtain ⟨rfl, hx⟩ := List.append_inj' he rfl
    injection hx with hx
    subst hx
    have hz : ∀ i, i < m → 128 ≤ z i := fun i hi => by
      have h1 := hon.more (dig z i) (List.mem_map.2 ⟨i, List.mem_range.2 hi, rfl⟩)
      have h2 : decide (z i < 128) = false := h1
      have h3 := of_decide_eq_false h2
      omega
    have hm9 : m ≤ 9 := by have := hon.len; rwa [upto_len] at this
    have hsum : val z m ≤ top := by have := hon.sum; rwa [sumP_upto] at this
    have hres : r0 = resV top z k e ∧ r1 = resK top z k e ∧ r2 = resE top z k e := by
      unfold Out3 at hout
      rw [sumP_upto, upto_len] at hout
      rcases hout with ⟨hb, rfl, rfl, rfl⟩ | ⟨hb, hl, rfl, rfl, rfl⟩
      · obtain ⟨h1, h2, h3⟩ := res_bad (top := top) (bad_is HT.out HT2.out HD.out hm hm9 hz hb)
        exact ⟨h1.symm, h2.symm, h3.symm⟩
      · obtain ⟨rfl, rfl, h3⟩ := good_is HT2.out HD.out hm hm9 hz hsum (of_decide_eq_true hl) hb
        obtain ⟨h4, h5, h6⟩ := res_ok (z := z) (k := m + 1) rfl h3
        exact ⟨h4.symm, h5.symm, h6.symm⟩
    obtain ⟨rfl, rfl, rfl⟩ := hres
    have HF := Lib.hid (hst.grown (grownBy_putObj' _ D (.deferred none)) (fun r e => by cases e; exact ⟨_, hK, rfl⟩))
    have HB := Lib.hid (hb.trans (belowK_b (w := w) (Nat.le_refl _) _ D _ (.deferred none) (by simp at hD; omega) hK rfl rfl))
    gi_wp2
    refine ⟨by simp, .inl ⟨_, _, rfl, run_takeDeferred hK, ?_⟩⟩
    exact ⟨_, num_results HF.out, rfl, Below.ch HB.out _⟩
#print axioms number_any
end Go.Proofs.Ytkpahhioiefcbaa
