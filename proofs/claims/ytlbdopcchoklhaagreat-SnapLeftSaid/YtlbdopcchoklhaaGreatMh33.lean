/-
  The document's Puts (quartermasterref12), walked. block.May, walked. The program's snap: share, may, encode, stripes (a function tto range over), walked. The stripes of an area, handed on (snap.stripes).
-/
import Derived.Test.YtlbdopcchoklhaaGreatMh31
import Derived.Test.YtlbdopcchoklhaaGreatMh18
import Derived.Test.YtlbdopcchoklhaaGreatMh32
import Derived.Test.YtlbdopcchoklhaaGreatMh5
import Derived.Test.YtlbdopcchoklhaaGreatMh4
namespace Go.Proofs.YtlbdopcchoklhaaGreat
open Go.RowKit
set_option linter.unusedVariables false
set_option maxRecDepth 100000
set_option linter.unusedSimpArgs false

/-- A row of noughts that is filled. -/
structure FilV (w0 w : World) (g m i : Nat) (Z : Nat → Nat) : Prop where
  row : w.rowIs g /-t-/5 m (fun c => .int .u8 ((if c < i then Z c else 0 : Nat) : Int))
  lo : w0.heap.size ≤ g
  ch : Ch (fun _ => False) w0 w
section
variable {w0 w w' : World} {g m i : Nat} {Z : Nat → Nat}
theorem FilV.start (w0 : World) (m : Nat) (Z : Nat → Nat) : FilV w0 (w0.alloc (.cells (madeCells #[.int .u8 0] m) /-t-/5)) w0.heap.size m 0 Z :=
  ⟨(World.rowIs_made w0 _ m _).congr fun j _ => by simp, Nat.le_refl _, (Ch.refl _ _).alloc _ _⟩
theorem FilV.skip (h : FilV w0 w g m i Z) (hz : Z i = 0) : FilV w0 w g m (i + 1) Z :=
  ⟨h.row.congr fun j _ => by
    by_cases e : j = i
    · subst e
      rw [if_neg (Nat.lt_irrefl _), if_pos (Nat.lt_succ_self _), hz]
    · by_cases q : j < i
      · rw [if_pos q, if_pos (by omega)]
      · rw [if_neg q, if_neg (by omega)], h.lo, h.ch⟩
theorem FilV.put (h : FilV w0 w g m i Z) : FilV w0 (w.setCell ⟨g, i, none⟩ (.int .u8 (Z i : Int))) g m (i + 1) Z :=
  ⟨(h.row.set i _).congr fun j _ => by
    by_cases e : j = i
    · subst e
      rw [if_pos rfl, if_pos (Nat.lt_succ_self _)]
    · rw [if_neg e]
      by_cases q : j < i
      · rw [if_pos q, if_pos (by omega)]
      · rw [if_neg q, if_neg (by omega)], h.lo, h.ch.setCell (Or.inr h.lo) _⟩
theorem FilV.done (h : FilV w0 w g m m Z) (hm : m ≤ 140737488351232) (hz : ∀ c, c < m → Z c < 256) : RowV w (.slice (some ⟨g, 0, none⟩) m m) m Z :=
  ⟨_, _, rfl, ⟨hm, Nat.le_refl _⟩, fun _ => ⟨g, 0, rfl, fun c hc => ⟨by rw [Nat.zero_add, h.row.cell hc, if_pos hc], hz c hc⟩⟩⟩
end
theorem owns_low {w : World} {base base2 sz : Nat} {e : TypeId} {v : Value} {n : Nat} {xs : List Value} (h : w.ownsRow base e sz v n xs) (hb : base2 ≤ base) : w.ownsRow base2 e sz v n xs := by
  refine ⟨h.1, ?_⟩
  rcases h.2 with hn | ⟨g, cap, cur, rfl, hb2, rest⟩
  · exact Or.inl hn
  · exact Or.inr ⟨g, cap, cur, rfl, Nat.le_trans hb hb2, rest⟩
theorem sect_V (vol ep no : Int) (n : Gn) (a : Nat) (Z : Nat → Nat) (V : Value) (s i : Nat) : sectZ (shrK vol ep no n a Z V s i) = sectZ (shrK vol ep no n a Z undef s i) := rfl
theorem PutsO.low {w w2 wr : World} {v : Value} {k : Nat} {f : Nat → PutP} {s : Nat → Value} (h : PutsO w2 wr v k f s) (hc : Ch (fun _ => False) w w2) : PutsO w wr v k f s :=
  ⟨owns_low h.own hc.size, fun c hk => by
    obtain ⟨sb, so, sC, e⟩ := h.rows c hk
    exact ⟨sb, so, sC, e.eq, e.row, e.blk, Nat.le_trans hc.size e.lo⟩, hc.trans h.ch⟩
theorem PutsO.app2 {w wr : World} {v : Value} {k sb so sC : Nat} {f : Nat → PutP} {s : Nat → Value} {u : Value} (h : PutsO w wr v k f s) (hu : OwnB w wr u (f k).n (f k).z sb so sC) (hk : k ≤ 1048576) :
    ∃ g cap w2, (Builtin.append_ #[ 30, 30] 30 #[v, .slice (some ⟨wr.heap.size, 0, none⟩) 1 1]).run Tryz.prog (wr.alloc (.cells #[.int .i64 (f k).pl, u] 35)) = .ok (.slice (some ⟨g, 0, none⟩) (k + 1) cap) w2 ∧ PutsO w w2 (.slice (some ⟨g, 0, none⟩) (k + 1) cap) (k + 1) f (up s k u) ∧ Ch (fun i => v.ownBlock = some i) wr w2 ∧ (v.ownBlock = some g ∨ wr.heap.size ≤ g) := by
  obtain ⟨i0, hi, hz0, hz1, hz2⟩ := info_parts info_put
  have k1 : Ch (fun _ => False) wr (wr.alloc (.cells #[.int .i64 (f k).pl, u] 35)) := (Ch.refl _ wr).alloc _ _
  have hu1 := hu.ch k1 (fun x => x)
  have one : u.oneCell' = true := by rw [hu.eq]; rfl
  have es : putL f s k = putL f (up s k u) k := putL_congr fun c hc => (up_other s u (by omega)).symm
  obtain ⟨g, cap, w2, hr, h2, h3, h4, _⟩ := run_append_lies (P := Tryz.prog) (wr.alloc (.cells #[.int .i64 (f k).pl, u] 35)) 30 30 w.heap.size 35 i0 _ 2 32 under_puts hi hz0 hz1 hz2 rfl (by omega) v k (putL f s k) (own_gr h.own k1) ⟨wr.heap.size, 0, none⟩ 1 1 [.int .i64 (f k).pl, u] rfl (fun j x hx => by
    rw [add_pl, blk_cell (heap_alloc_new wr _), Nat.zero_add]
    show ([Value.int .i64 (f k).pl, u].toArray)[j]? = some x
    rw [List.getElem?_toArray]
    exact hx) (fun x hx => by
      rcases List.mem_cons.1 hx with rfl | hx
      · rfl
      · rw [List.mem_singleton.1 hx]; exact one) (by omega) (by unfold maxLen; omega) (by omega) (Nat.le_trans h.ch.size k1.size) _ rfl
  have e2 : putL f s k ++ [.int .i64 (f k).pl, u] = putL f (up s k u) (k + 1) := by rw [putL_snoc, ← es, up_same]
  rw [e2] at h2
  have k2 : Ch (fun i => v.ownBlock = some i) (wr.alloc (.cells #[.int .i64 (f k).pl, u] 35)) w2 := (Ch.refl _ _).grown h3 (fun i hi => Or.inl hi)
  have off : ∀ i c, (wr.alloc (.cells #[.int .i64 (f k).pl, u] 35)).heap[i]? = some (.cells c /-t-/5 (0, 0)) → ¬ v.ownBlock = some i := fun i c hc e => by
    obtain ⟨_, c2, hc2⟩ := own_at (own_gr h.own k1) e
    exact cells_ne hc2 hc (by decide) rfl
  refine ⟨g, cap, w2, hr, ⟨h2, fun c hc => ?_, (h.ch.trans k1).new (k2.mono fun i _ hi => (own_at h.own hi).1)⟩, (k1.mono fun _ _ f => f.elim).trans k2, h4.imp id fun e => by rw [e]; exact k1.size⟩
  by_cases q : c = k
  · subst q
    obtain ⟨cc, hcc⟩ := hu1.blk
    exact ⟨sb, so, sC, by rw [up_same]; exact hu1.ch k2 (off sb cc hcc)⟩
  · obtain ⟨b, o, C, r⟩ := h.rows c (by omega)
    have r1 := r.ch k1 (fun x => x)
    obtain ⟨cc, hcc⟩ := r1.blk
    exact ⟨b, o, C, by rw [up_other _ _ q]; exact r1.ch k2 (off b cc hcc)⟩
/-- A matrix whose blocks are those of X. -/
def MatX (w : World) (X : Nat → Prop) (v : Value) (n : Nat) (L : Nat → Nat) (Z : Nat → Nat → Nat) : Prop :=
  ∃ b o C, v = .slice (some ⟨b, o, none⟩) n C ∧ X b ∧ ∀ r, r < n → ∃ A' C', w.cell? ⟨b, o + r, none⟩ = some (.slice A' (L r) C') ∧ RowV w (.slice A' (L r) C') (L r) (Z r) ∧ ∀ q, (Value.slice A' (L r) C').ownBlock = some q → X q
theorem matX_ch {w w' : World} {X S : Nat → Prop} {v : Value} {n : Nat} {L : Nat → Nat} {Z : Nat → Nat → Nat} (h : MatX w X v n L Z) (k : Ch S w w') (hS : ∀ i, X i → ¬ S i) : MatX w' X v n L Z := by
  obtain ⟨b, o, C, e, hb, hr⟩ := h
  refine ⟨b, o, C, e, hb, fun r hrn => ?_⟩
  obtain ⟨A', C', h1, h2, h3⟩ := hr r hrn
  refine ⟨A', C', k.cell h1 (hS b hb), ?_, h3⟩
  by_cases h0 : 0 < L r
  · obtain ⟨A2, C2, e2, _, h4⟩ := id h2
    injection e2 with e2 _ e3
    obtain ⟨b2, o2, hA, _⟩ := h4 h0
    subst e2 hA
    exact h2.ch' k (hS b2 (h3 b2 rfl))
  · obtain ⟨A2, C2, e2, hl, _⟩ := id h2
    injection e2 with e2 _ e3
    subst e2 e3
    exact ⟨A', C', rfl, hl, fun q => absurd q h0⟩
def PtsPost (q : Nat) (f : Nat → PutP) (w : World) (e : Ending) (w' : World) : Prop := ∃ v S, e = .returned (.tuple #[v, .int .i64 0]) ∧ PutsO w w' v q f S
end Go.Proofs.YtlbdopcchoklhaaGreat
namespace Go.Proofs.YtlbdopcchoklhaaGreat
open Go.RowKit
set_option linter.unusedVariables false
set_option maxRecDepth 100000

/-! ### May -/
set_option maxHeartbeats 800000 in
theorem may_any (b : Bk) (A : Option Addr) (C : Nat) (w : World) (hV : b.V = .slice A b.len C) (hl : b.len ≤ 140737488351232) : Calls Tryz.prog 60 #[.agg (bkC b)] w (Ans (.bool (mayB b)) w) := by
  obtain ⟨w1, H, hR⟩ := bkR w b
  have x5 : w1.cell? ⟨H, 5, none⟩ = some (.slice A b.len C) := by rw [← hV]; exact hR.at 5
  have HL := Lib.hid (load_bk hR.cx)
  have HR := Lib.hid hR
  have HN := Lib.hid (show mayB b = (numB b && decide (b.len ≤ 228)) from rfl)
  obtain ⟨q, hq⟩ : ∃ q, q = numB b := ⟨_, rfl⟩
  have HQ := Lib.hid hq
  rw [← hq] at HN
  clear hR hq
  obtain ⟨n, hn⟩ : ∃ n, n = b.len := ⟨_, rfl⟩
  rw [← hn] at HN x5 hl
  clear hn
  go_enter Tryz.func60, Tryz.ntmps60
  go_wp2_with (first
    | ((with_reducible refine wpList_isOp (.box 71 (.tmp 0)) rfl ?_); refine wpList_boxing _ w1 rfl 71 (.tmp 0) rfl (bkC b) H rfl (by exact HR.out.sz) (by exact HR.out.al) ?_)
    | ((with_reducible refine wpList_isOp (.load 71 (.tmp 1)) rfl ?_); refine wpList_loading _ rfl 71 (.tmp 1) rfl (.agg (bkC b)) ⟨H, 0, none⟩ rfl (by exact HL.out) ?_))
  refine (numbersMay_any b _).mono ?_
  rintro e w2 ⟨rfl, hc2⟩
  rw [← HQ.out]
  have y5 := hc2.cell x5 (fun f => f)
  have HC := Lib.hid (HR.out.ch.trans hc2)
  clear hc2 x5
  cases q
  · go_wp2
    go_ret
    exact ⟨ret_bool (by rw [HN.out, Bool.false_and]), HC.out⟩
  · by_cases h : n ≤ 228
    · have t1 : decide ((n : Int) ≤ 228) = true := by simp; omega
      have HM := Lib.hid (show decide (n ≤ 228) = true from decide_eq_true h)
      clear h
      go_wp2
      go_ret
      exact ⟨ret_bool (by rw [HN.out, HM.out]; rfl), HC.out⟩
    · have t1 : decide ((n : Int) ≤ 228) = false := by simp; omega
      have HM := Lib.hid (show decide (n ≤ 228) = false from decide_eq_false h)
      clear h
      go_wp2
      go_ret
      exact ⟨ret_bool (by rw [HN.out, HM.out]; rfl), HC.out⟩
end Go.Proofs.YtlbdopcchoklhaaGreat
namespace Go.Proofs.YtlbdopcchoklhaaGreat
open Go.RowKit
set_option linter.unusedVariables false
set_option maxRecDepth 100000
set_option linter.unusedSimpArgs false
attribute [local go_sem] Oper.semAt_some wide_fn wide_depth

/-! ### share -/
theorem built_shr (v a e s : Int) (A : Option Addr) (l C : Nat) (w : World) : (Instr.build 71 #[(0, .int .i64 4), (1, .int .i64 v), (2, .int .i64 a), (3, .int .i64 e), (4, .int .i64 s), (5, .slice A l C)]).run Tryz.prog w = .ok (.agg #[.int .i64 4, .int .i64 v, .int .i64 a, .int .i64 e, .int .i64 s, .slice A l C]) w := run_build w _ _ _ (by kernel_rfl)
set_option maxHeartbeats 1600000 in
theorem share_any (v a e s : Int) (A : Option Addr) (l C : Nat) (w : World) : Calls Tryz.prog 38 #[.int .i64 v, .int .i64 a, .int .i64 e, .int .i64 s, .slice A l C] w (Ans (.agg #[.int .i64 4, .int .i64 v, .int .i64 a, .int .i64 e, .int .i64 s, .slice A l C]) w) := by
  obtain ⟨wz, wx, H, hV⟩ := varBk (b := ⟨4, v, a, e, s, .slice A l C, l, fun _ => 0⟩) ⟨A, l, C, rfl⟩ w
  have HV := Lib.hid hV
  have HBT := Lib.hid (built_shr v a e s A l C wz)
  have HP : Hid (Ans (.agg #[.int .i64 4, .int .i64 v, .int .i64 a, .int .i64 e, .int .i64 s, .slice A l C]) w (.returned (.agg #[.int .i64 4, .int .i64 v, .int .i64 a, .int .i64 e, .int .i64 s, .slice A l C])) wx) := Lib.hid ⟨rfl, hV.ch⟩
  clear hV
  go_enter Tryz.func38, Tryz.ntmps38
  go_wp2_with (first
    | ((with_reducible refine wpList_isOp (.alloc 71) rfl ?_); refine wpList_making _ wz rfl 71 rfl (bkC bk0) H (zero_bk _) (by exact HV.out.sz) (by exact HV.out.al) ?_)
    | ((with_reducible refine wpList_isOp (.build 71 #[(0, .const (.int .i64 4)), (1, .tmp 11), (2, .tmp 12), (3, .tmp 13), (4, .tmp 14), (5, .tmp 15)]) rfl ?_); refine wpList_building _ rfl 71 #[(0, .const (.int .i64 4)), (1, .tmp 11), (2, .tmp 12), (3, .tmp 13), (4, .tmp 14), (5, .tmp 15)] rfl _ (by exact HBT.out) ?_)
    | ((with_reducible refine wpList_isOp (.store 71 (.tmp 10) (.tmp 16)) rfl ?_); refine wpList_storing _ wx rfl 71 (.tmp 10) (.tmp 16) rfl (.agg (bkC ⟨4, v, a, e, s, .slice A l C, l, fun _ => 0⟩)) ⟨H, 0, none⟩ rfl rfl (by exact HV.out.st) ?_)
    | fail)
  exact bodyPost_ret (v := .agg #[.int .i64 4, .int .i64 v, .int .i64 a, .int .i64 e, .int .i64 s, .slice A l C]) (results_cell_row Tryz.results38 _ _ H 71 (bkC ⟨4, v, a, e, s, .slice A l C, l, fun _ => 0⟩) (0, 0) _ rfl HV.out.cx Tryz.underlying71 rfl (info_bk _)) rfl HP.out
/-! ### may -/
theorem may_nil {vol at0 ep no : Int} {V : Value} (h : 0 ≤ at0 ∧ at0 ≤ 4294967295) : mayB ⟨4, vol, at0, ep, no, V, 0, fun _ => 0⟩ = (wordB vol && (wordB ep && wordB no)) := by
  unfold mayB numB wordsB kindB
  rw [show wordB at0 = true from wordB_iff.2 h]
  cases wordB vol <;> cases wordB ep <;> cases wordB no <;> rfl
/-- There is such a stripe, and its blocks may have such numbers. -/
def smayB (vol : Int) (g : Ge) (a s ep no : Int) : Bool := frsB g a s && (wordB vol && (wordB ep && wordB no))
set_option maxHeartbeats 3200000 in
theorem snmay_any (vol : Int) (g : Ge) (a s ep no : Int) (w : World) : Calls Tryz.prog 32 #[.int .i64 vol, .agg (geC g), .int .i64 a, .int .i64 s, .int .i64 ep, .int .i64 no] w (Ans (.bool (smayB vol g a s ep no)) w) := by
  obtain ⟨w1, H, hR⟩ := geR w g
  obtain ⟨x0, x1, x2, x3⟩ := hR.x
  have HR := Lib.hid hR
  clear hR
  cases hf : frsB g a s with
  | false =>
    have HF := Lib.hid (sfirst_no g a s w1 hf)
    rw [show smayB vol g a s ep no = false by unfold smayB; rw [hf]; rfl]
    clear hf
    go_enter Tryz.func32, Tryz.ntmps32
    go_wp2_with (first | ((with_reducible refine wpList_isOp (.box 23 (.tmp 1)) rfl ?_); refine wpList_boxing _ w1 rfl 23 (.tmp 1) rfl (geC g) H rfl (by exact HR.out.sz) (by exact HR.out.al) ?_) | fail)
    refine HF.out.mono ?_
    rintro e w2 ⟨rfl, hc2⟩
    have HC := Lib.hid (HR.out.ch.trans hc2)
    clear hc2 x0 x1 x2 x3
    go_wp2
    go_ret
    exact ⟨rfl, HC.out⟩
  | true =>
    obtain ⟨n, x, y, hn, rfl, rfl, rfl, hx, hy⟩ := frsB_nat hf
    have HF := Lib.hid (sfirst_yes n x y w1 hn hx hy)
    have hlt := frsN_lt hn hx hy (i := 0) (by have := hn.q1; omega)
    have htt := hn.tot2
    obtain ⟨at0, hat⟩ : ∃ at0, at0 = frsN n x y := ⟨_, rfl⟩
    rw [← hat] at HF hlt
    have HE := Lib.hid (show smayB vol n.ge x y ep no = mayB ⟨4, vol, at0, ep, no, .slice none 0 0, 0, fun _ => 0⟩ by unfold smayB; rw [hf, may_nil (by omega)]; rfl)
    have HSH := Lib.hid (fun w => share_any vol (at0 : Int) ep no none 0 0 w)
    have HMA := Lib.hid (fun w => may_any ⟨4, vol, (at0 : Int), ep, no, .slice none 0 0, 0, fun _ => 0⟩ none 0 w rfl (Nat.zero_le _))
    obtain ⟨q, hq⟩ : ∃ q, q = mayB ⟨4, vol, (at0 : Int), ep, no, .slice none 0 0, 0, fun _ => 0⟩ := ⟨_, rfl⟩
    rw [← hq] at HMA HE
    rw [HE.out]
    clear hf hn hx hy hlt htt hat hq HE
    go_enter Tryz.func32, Tryz.ntmps32
    go_wp2_with (first | ((with_reducible refine wpList_isOp (.box 23 (.tmp 1)) rfl ?_); refine wpList_boxing _ w1 rfl 23 (.tmp 1) rfl (geC n.ge) H rfl (by exact HR.out.sz) (by exact HR.out.al) ?_) | fail)
    refine HF.out.mono ?_
    rintro e w2 ⟨rfl, hc2⟩
    have HC := Lib.hid (HR.out.ch.trans hc2)
    clear hc2 x0 x1 x2 x3
    go_wp2_with fail
    refine (HSH.out _).mono ?_
    rintro e w3 ⟨rfl, hc3⟩
    have HC3 := Lib.hid (HC.out.trans hc3)
    clear hc3
    go_wp2_with fail
    refine (HMA.out _).mono ?_
    rintro e w4 ⟨rfl, hc4⟩
    have HC4 := Lib.hid (HC3.out.trans hc4)
    clear hc4
    cases q
    all_goals (
      go_wp2
      go_ret
      exact ⟨rfl, HC4.out⟩)
/-! ### encode -/
/-- Rows that were told, and new ones behind them. -/
def EncPost (q k m : Nat) (F : Nat → Value) (Y : Nat → Nat → Nat) (w : World) (e : Ending) (w' : World) : Prop :=
  ∃ g C G, e = .returned (.tuple #[.slice (some ⟨g, 0, none⟩) q C, .int .i64 0]) ∧ w'.ownsRow w.heap.size /-t-/24 1 (.slice (some ⟨g, 0, none⟩) q C) q (valsL k F ++ valsL m G) ∧ Ch (fun _ => False) w w' ∧
    ∀ r, r < m → RowV w' (G r) 228 (Y r) ∧ ∀ b, (G r).ownBlock = some b → w.heap.size ≤ b ∧ b < w'.heap.size
theorem bld_vals {base : Nat} {w : World} {v : Value} {m l : Nat} {Y : Nat → Nat → Nat} (h : Bld base w v m (fun _ => l) Y) (hm : 0 < m) : ∃ g C G, v = .slice (some ⟨g, 0, none⟩) m C ∧ RowsAt w g 0 m G ∧ ∀ r, r < m → RowV w (G r) l (Y r) ∧ ∀ b, (G r).ownBlock = some b → base ≤ b ∧ b < w.heap.size := by
  obtain ⟨xs, h1, h2⟩ := h
  obtain ⟨g, cap, rfl, _, _⟩ := h1.form hm
  refine ⟨g, cap, fun r => xs.getD r undef, rfl, fun r hr => ?_, fun r hr => ?_⟩
  · obtain ⟨x, hx, hrow, hxb⟩ := h2 r hr
    have hc := World.ownsRow.cells h1 (g := g) rfl r x hx
    rw [add_pl] at hc
    have e : xs.getD r undef = x := by rw [List.getD_eq_getElem?_getD, hx]; rfl
    show w.cell? ⟨g, 0 + r, none⟩ = some (xs.getD r undef) ∧ (xs.getD r undef).oneCell' = true
    rw [e]
    obtain ⟨A, C, rfl, _⟩ := id hrow
    exact ⟨hc, rfl⟩
  · obtain ⟨x, hx, hrow, hxb⟩ := h2 r hr
    have e : xs.getD r undef = x := by rw [List.getD_eq_getElem?_getD, hx]; rfl
    show RowV w (xs.getD r undef) l (Y r) ∧ ∀ b, (xs.getD r undef).ownBlock = some b → _
    rw [e]
    exact ⟨hrow, fun b hb => ⟨(hxb b hb).2.2.1, (hxb b hb).1⟩⟩
set_option maxHeartbeats 3200000 in
theorem senc_any (b o C : Nat) (F : Nat → Value) (X : Nat → Nat → Nat) (n : Gn) (w : World) (hn : n.Ok) (hM : MatV w (.slice (some ⟨b, o, none⟩) n.K C) n.K (fun _ => 228) X) (hF : RowsAt w b o n.K F) :
    Calls Tryz.prog 36 #[.agg (geC n.ge), .slice (some ⟨b, o, none⟩) n.K C] w (EncPost n.q n.K n.M F (mulZ n.K (cauZ n.K) X) w) := by
  obtain ⟨w1, H, hR⟩ := geR w n.ge
  have x3 : w1.cell? ⟨H, 3, none⟩ = some (.int .i64 (n.M : Int)) := hR.x.x3
  have HR := Lib.hid hR
  have hk2 := hn.k2
  have hm2 := hn.m2
  have HEN := Lib.hid (encode_new _ n.K n.M (fun _ => 228) X w1 (hM.gr hR.ch) (may_const hn.k1 (by omega) (by omega) (by omega)) (by omega))
  have HF := Lib.hid hF
  have HN := Lib.hid hn
  clear hR hM hF hn hk2 hm2
  go_enter Tryz.func36, Tryz.ntmps36
  go_wp2_with (first | ((with_reducible refine wpList_isOp (.box 23 (.tmp 0)) rfl ?_); refine wpList_boxing _ w1 rfl 23 (.tmp 0) rfl (geC n.ge) H rfl (by exact HR.out.sz) (by exact HR.out.al) ?_) | fail)
  refine HEN.out.mono ?_
  rintro e w2 ⟨u, rfl, hbu, hc2⟩
  obtain ⟨g2, C2, G, rfl, hg, hrows⟩ := bld_vals hbu (show 0 < n.M from HN.out.m1)
  have k12 := HR.out.ch.trans hc2
  obtain ⟨w3, hw3⟩ : ∃ w3, w3 = w2.alloc (.cells #[.slice (some ⟨b, o, none⟩) n.K C, .slice (some ⟨g2, 0, none⟩) n.M C2] /-t-/37) := ⟨_, rfl⟩
  obtain ⟨B, hB⟩ : ∃ B, B = w2.heap.size := ⟨_, rfl⟩
  have k23 : Ch (fun _ => False) w2 w3 := by rw [hw3]; exact (Ch.refl _ w2).alloc _ _
  have hblk : w3.heap[B]? = some (.cells #[.slice (some ⟨b, o, none⟩) n.K C, .slice (some ⟨g2, 0, none⟩) n.M C2] /-t-/37 (0, 0)) := by rw [hw3, hB]; exact heap_alloc_new _ _
  have HCC := Lib.hid (concM_any B b o C g2 0 C2 n.K n.M F G w3 HN.out.k1 (by have h1 := HN.out.k2; have h2 := HN.out.m2; omega) hblk (HF.out.gr (k12.trans k23)) (hg.gr k23))
  have HK := Lib.hid (And.intro k12 k23)
  have HRW := Lib.hid hrows
  have HSZ := Lib.hid (show w.heap.size ≤ w1.heap.size from HR.out.ch.size)
  have HW3 := Lib.hid hw3
  have HBB := Lib.hid hB
  clear hbu hc2 hg hrows k12 k23 hblk hw3 hB x3 HEN
  go_wp2_with fail
  rw [← HW3.out, ← HBB.out]
  refine HCC.out.mono ?_
  rintro e w4 ⟨g4, C4, rfl, h1, h2⟩
  have eq : n.K + n.M = n.q := rfl
  rw [eq] at h1 ⊢
  have HFIN : Hid (EncPost n.q n.K n.M F (mulZ n.K (cauZ n.K) X) w (.returned (.tuple #[.slice (some ⟨g4, 0, none⟩) n.q C4, .int .i64 0])) w4) := Lib.hid
    ⟨g4, C4, G, rfl, ownsRow_base h1 (Nat.le_trans HK.out.1.size HK.out.2.size), HK.out.1.trans (HK.out.2.trans h2), fun r hr => ⟨(HRW.out r hr).1.gr (HK.out.2.trans h2), fun q hq => by
      have h5 := (HRW.out r hr).2 q hq
      have h6 := HSZ.out
      have h7 := (HK.out.2.trans h2).size
      exact ⟨by omega, by omega⟩⟩⟩
  clear h1 h2 eq
  go_wp2
  go_ret2
  exact HFIN.out
end Go.Proofs.YtlbdopcchoklhaaGreat
namespace Go.Proofs.YtlbdopcchoklhaaGreat
open Go.RowKit
set_option linter.unusedVariables false
set_option maxRecDepth 100000
set_option linter.unusedSimpArgs false
attribute [local go_sem] Oper.semAt_some wide_fn wide_depth

def encS (n : Gn) (a : Nat) (x : Fin n.S) : Array Value := #[.int .i64 (x.1 : Int), .int .i64 (frsN n a x.1 : Int)]
def KpStr (Hg Ha : Nat) (W W' : World) : Prop := KpX (fun i => i = Hg ∨ i = Ha) W W'
theorem stripes_any (g : Ge) (a : Int) (w : World) : Calls Tryz.prog 35 #[.agg (geC g), .int .i64 a] w fun e w' => ∃ Hg Ha, e = .returned (.func (.func 63) #[] #[.pointer (some ⟨Hg, 0, none⟩), .pointer (some ⟨Ha, 0, none⟩)]) ∧ w'.heap[Hg]? = some (.cells (geC g) 23 (0, 0)) ∧ w'.heap[Ha]? = some (.cells #[.int .i64 a] /-t-/3 (0, 0)) ∧ w.heap.size ≤ Hg ∧ w.heap.size ≤ Ha ∧ Ch (fun _ => False) w w' := by
  obtain ⟨w1, H, hR⟩ := geR w g
  have HR := Lib.hid hR
  obtain ⟨w2, hw2⟩ : ∃ w2, w2 = w1.alloc (.cells #[.int .i64 a] /-t-/3) := ⟨_, rfl⟩
  obtain ⟨Ha, hHa⟩ : ∃ Ha, Ha = w1.heap.size := ⟨_, rfl⟩
  have c2 : Ch (fun _ => False) w1 w2 := by rw [hw2]; exact (Ch.refl _ w1).alloc _ _
  have h2 : w2.heap[Ha]? = some (.cells #[.int .i64 a] /-t-/3 (0, 0)) := by rw [hw2, hHa]; exact heap_alloc_new _ _
  have HB : Hid (w2.heap[H]? = some (.cells (geC g) 23 (0, 0)) ∧ w2.heap[Ha]? = some (.cells #[.int .i64 a] /-t-/3 (0, 0)) ∧ w.heap.size ≤ H ∧ w.heap.size ≤ Ha ∧ Ch (fun _ => False) w w2) :=
    Lib.hid ⟨(c2.block _ (blk_lt hR.cx) (fun f => f)).trans hR.cx, h2, by rw [hR.sz]; exact Nat.le_refl _, by rw [hHa]; exact hR.ch.size, hR.ch.trans c2⟩
  have HW2 := Lib.hid hw2
  have HA2 := Lib.hid hHa
  clear hR hw2 hHa c2 h2
  go_enter Tryz.func35, Tryz.ntmps35
  go_wp2_with (first | ((with_reducible refine wpList_isOp (.box 23 (.tmp 0)) rfl ?_); refine wpList_boxing _ w1 rfl 23 (.tmp 0) rfl (geC g) H rfl (by exact HR.out.sz) (by exact HR.out.al) ?_) | fail)
  rw [← HW2.out, ← HA2.out]
  go_wp2
  go_ret
  exact ⟨H, Ha, rfl, HB.out⟩
set_option maxHeartbeats 6400000 in
theorem stripes1_in (m : Nat) (hm : 1 ≤ m) (l Hg Ha : Nat) (n : Gn) (a : Nat) (hn : n.Ok) (ha : a ≤ 1) (J Jx : List (Fin n.S) → World → Prop) (W : World) (hJ : AbidesFrom W.heap.size J)
    (hY : ∀ pre x W, J pre W → pre.length < n.S → YieldAt Fence.wide (m - 1) Tryz.prog l (encS n a x) W fun e W' =>
      (e = .returned (.bool true) ∧ J (pre ++ [x]) W' ∧ KpStr Hg Ha W W') ∨ (e = .returned (.bool false) ∧ Jx (pre ++ [x]) W'))
    (hHg : W.heap[Hg]? = some (.cells (geC n.ge) 23 (0, 0))) (hHa : W.heap[Ha]? = some (.cells #[.int .i64 (a : Int)] /-t-/3 (0, 0))) (h0 : J [] W) :
    CallsIn Fence.wide m Tryz.prog 63 #[.func (.yield l) #[] #[], .pointer (some ⟨Hg, 0, none⟩), .pointer (some ⟨Ha, 0, none⟩)] W fun e W' => (∃ v, e = .returned v) ∧
      ((∃ ys : List (Fin n.S), ys.map Fin.val = List.range n.S ∧ J ys W') ∨ (∃ pre : List (Fin n.S), (∃ k, k ≤ n.S ∧ pre.map Fin.val = List.range k) ∧ Jx pre W')) := by
  have HG := Lib.hid hHg
  have HA := Lib.hid hHa
  have HN := Lib.hid hn
  have HAL := Lib.hid ha
  have s0 : (0 : Int) ≤ (n.S : Int) := Int.natCast_nonneg _
  have s1 : (n.S : Int) ≤ 32 := by have := hn.s2; omega
  have b1 : W.cell? ⟨Hg, 1, none⟩ = some (.int .i64 (n.S : Int)) := blk_cell hHg
  clear hHg hHa hn ha
  refine callsIn_of_wp Tryz.func63 rfl trivial ?_ rfl
  simp only [Tryz.ntmps63, List.size_toArray, List.length_cons, List.length_nil, Nat.reduceAdd, Nat.reduceSub, Array.replicate_succ, Array.replicate_zero, List.push_toArray, List.append_toArray, List.nil_append, List.cons_append]
  gi_wp2
  clear b1
  gi_loopw [4, 5, 6, 9] (fun _ _ _ i wr => ∃ (k : Nat) (pre : List (Fin n.S)), i = .int .i64 (k : Int) ∧ k ≤ n.S ∧ pre.map Fin.val = List.range k ∧ Hid (J pre wr) ∧ Hid (wr.heap[Hg]? = some (.cells (geC n.ge) 23 (0, 0))) ∧ Hid (wr.heap[Ha]? = some (.cells #[.int .i64 (a : Int)] /-t-/3 (0, 0)))) (fun _ _ _ i _ => n.S - (intOf i).toNat)
  case atStart => exact ⟨0, [], rfl, Nat.zero_le _, rfl, Lib.hid h0, HG, HA⟩
  case round =>
    clear h0 HG HA
    obtain ⟨k, pre, rfl, hk, hpre, HJ, HG, HA⟩ := hrel
    have k0 : (0 : Int) ≤ (k : Int) := Int.natCast_nonneg _
    by_cases hlt : k < n.S
    · have HKN := Lib.hid hlt
      have k1 : (k : Int) < (n.S : Int) := by omega
      have hlen : pre.length < n.S := by have := congrArg List.length hpre; simp at this; omega
      have HPRE : Hid ((pre ++ [(⟨k, hlt⟩ : Fin n.S)]).map Fin.val = List.range (k + 1)) := Lib.hid (by rw [List.map_append, hpre, List.range_succ]; rfl)
      have HLEN := Lib.hid hlen
      have HF := Lib.hid (sfirst_yes n a k wr HN.out HAL.out hlt)
      have x0 : wr.cell? ⟨Hg, 0, none⟩ = some (.int .i64 (n.W : Int)) := blk_cell HG.out
      have x1 : wr.cell? ⟨Hg, 1, none⟩ = some (.int .i64 (n.S : Int)) := blk_cell HG.out
      have x2 : wr.cell? ⟨Hg, 2, none⟩ = some (.int .i64 (n.K : Int)) := blk_cell HG.out
      have x3 : wr.cell? ⟨Hg, 3, none⟩ = some (.int .i64 (n.M : Int)) := blk_cell HG.out
      have y0 : wr.cell? ⟨Ha, 0, none⟩ = some (.int .i64 (a : Int)) := blk_cell HA.out
      clear hlen hpre hk
      gi_upto_region 3 with fail
      refine wpIn_wide.2 ?_
      go_wp2_with fail
      refine HF.out.mono ?_
      rintro e w5 ⟨rfl, hc5⟩
      have hJ5 := hJ _ _ _ none HJ.out (grown_ch hc5) (fun _ e => by cases e)
      have HG5 := Lib.hid ((hc5.block Hg (blk_lt HG.out) (fun f => f)).trans HG.out)
      have HA5 := Lib.hid ((hc5.block Ha (blk_lt HA.out) (fun f => f)).trans HA.out)
      obtain ⟨fn, tmps, assign, body, hy, hR⟩ := hY pre ⟨k, hlt⟩ w5 hJ5 HLEN.out
      have e1 : encS n a (⟨k, hlt⟩ : Fin n.S) = #[.int .i64 (k : Int), .int .i64 (frsN n a k : Int)] := rfl
      rw [e1] at hy
      clear hc5 hJ5 e1 x0 x1 x2 x3 y0 HF
      go_wp2
      gi_wp2
      refine hR.mono ?_
      rintro e W3 (⟨rfl, hJ3, hK3⟩ | ⟨rfl, hJx3⟩)
      · have HJ3 := Lib.hid hJ3
        have HG3 := Lib.hid (hK3 _ _ _ _ (Or.inl rfl) HG5.out)
        have HA3 := Lib.hid (hK3 _ _ _ _ (Or.inr rfl) HA5.out)
        clear hJ3 hK3
        gi_wp2
        go_roundw
        case rel => exact ⟨k + 1, _, by simp, HKN.out, HPRE.out, HJ3, HG3, HA3⟩
        case measure => simp [intOf]; omega
      · gi_wp2
        refine bodyPost_ret (results_none rfl _ _ _) rfl ?_
        exact ⟨⟨_, rfl⟩, .inr ⟨_, ⟨k + 1, HKN.out, HPRE.out⟩, hJx3⟩⟩
    · obtain rfl : k = n.S := by omega
      clear hlt hk
      gi_wp2
      go_end0
      exact ⟨⟨_, rfl⟩, .inl ⟨_, hpre, HJ.out⟩⟩
end Go.Proofs.YtlbdopcchoklhaaGreat
