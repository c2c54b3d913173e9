/-
  Rows of ints in memory: rows that are read, rows of one's own, a number behind them; rows that are handed in, opened. The document's May, Groups, Bears, Ints (quartermasterref08), walked. The document's digits, Num, Int and Bytes (quartermasterref05), walked.
-/
import Derived.Test.YtjdknebifcdicaaMg1
import Derived.Test.YtjdknebifcdicaaMg2
import Derived.Test.YtjdknebifcdicaaMg32
import Derived.Test.YtjdknebifcdicaaMg14
namespace Go.Proofs.Ytjdknebifcdicaa
open Go.ChangeShapes Go.WideShapes Go.ChangeAt Go.RowKit Go.Deep
set_option linter.unusedVariables false
set_option maxRecDepth 100000

theorem Try.infoI : (Try.prog.info? /-t-/3).map (fun i => (i.zero, i.size, i.bytes)) = some (some (.int .i64 0), 1, 8) := by kernel_rfl
theorem underI : Try.prog.underlying 62 = some (.slice /-t-/3) := by kernel_rfl
theorem underN : Try.prog.underlying /-t-/3 = some (.int .i64) := by kernel_rfl
/-! ### lists of ints -/
def numL (k : Nat) (q : Nat → Int) : List Value := (List.range k).map fun c => Value.int .i64 (q c)
theorem numL_len (k : Nat) (q : Nat → Int) : (numL k q).length = k := by unfold numL; simp
theorem numL_get {k c : Nat} {q : Nat → Int} (h : c < k) : (numL k q)[c]? = some (.int .i64 (q c)) := by unfold numL; simp [h]
theorem numL_none {k c : Nat} {q : Nat → Int} (h : ¬ c < k) : (numL k q)[c]? = none := List.getElem?_eq_none (by rw [numL_len]; omega)
theorem numL_one {k : Nat} {q : Nat → Int} : ∀ u ∈ numL k q, u.oneCell' = true := fun u hu => by
  unfold numL at hu; obtain ⟨c, _, rfl⟩ := List.mem_map.1 hu; rfl
theorem numL_snoc (k : Nat) (q : Nat → Int) : numL (k + 1) q = numL k q ++ [Value.int .i64 (q k)] := by unfold numL; rw [List.range_succ, List.map_append]; rfl
theorem numL_congr {k : Nat} {q r : Nat → Int} (h : ∀ c, c < k → q c = r c) : numL k q = numL k r := List.map_congr_left fun c hc => by rw [h c (List.mem_range.1 hc)]

/-! ### a row, to be read -/
def IntV (w : World) (v : Value) (n : Nat) (q : Nat → Int) : Prop :=
  ∃ (A : Option Addr) (C : Nat), v = .slice A n C ∧ (n ≤ 140737488351232 ∧ n ≤ C) ∧ (0 < n → ∃ b o, A = some ⟨b, o, none⟩ ∧ ∀ c, c < n → w.cell? ⟨b, o + c, none⟩ = some (.int .i64 (q c)))
theorem IntV.ch {S : Nat → Prop} {w w' : World} {v : Value} {n : Nat} {q : Nat → Int} (h : IntV w v n q) (k : Ch S w w') (hS : ∀ i, i < w.heap.size → ¬ S i) : IntV w' v n q := by
  obtain ⟨A, C, h1, h2, h3⟩ := h
  refine ⟨A, C, h1, h2, fun hl => ?_⟩
  obtain ⟨b, o, hA, hc⟩ := h3 hl
  exact ⟨b, o, hA, fun c hcl => k.cell (hc c hcl) (hS _ (World.block_lt_of_cell? _ _ (hc c hcl)))⟩
theorem IntV.gr {w w' : World} {v : Value} {n : Nat} {q : Nat → Int} (h : IntV w v n q) (k : Ch (fun _ => False) w w') : IntV w' v n q := h.ch k (fun _ _ f => f)
theorem IntV.congr {w : World} {v : Value} {n : Nat} {q r : Nat → Int} (h : IntV w v n q) (e : ∀ c, c < n → q c = r c) : IntV w v n r := by
  obtain ⟨A, C, h1, h2, h3⟩ := h
  refine ⟨A, C, h1, h2, fun hl => ?_⟩
  obtain ⟨b, o, hA, hc⟩ := h3 hl
  exact ⟨b, o, hA, fun c hcl => by rw [← e c hcl]; exact hc c hcl⟩
theorem IntV.at {w : World} {A : Option Addr} {n C : Nat} {q : Nat → Int} (h : IntV w (.slice A n C) n q) (hn : 0 < n) : ∃ b o, A = some ⟨b, o, none⟩ ∧ ∀ c, c < n → w.cell? ⟨b, o + c, none⟩ = some (.int .i64 (q c)) := by
  obtain ⟨_, _, e, _, h3⟩ := h
  injection e with e _ _
  subst e
  exact h3 hn
theorem IntV.len {w : World} {v : Value} {n : Nat} {q : Nat → Int} (h : IntV w v n q) : ∃ A C, v = .slice A n C ∧ n ≤ 140737488351232 := by
  obtain ⟨A, C, h1, h2, _⟩ := h
  exact ⟨A, C, h1, h2.1⟩
theorem none_intV (w : World) (q : Nat → Int) (C : Nat) : IntV w (.slice none 0 C) 0 q := ⟨none, C, rfl, by omega, fun h => absurd h (Nat.lt_irrefl 0)⟩
theorem own_intV {w : World} {base k : Nat} {v : Value} {q : Nat → Int} (h : w.ownsRow base /-t-/3 1 v k (numL k q)) (hk : k ≤ 140737488351232) : IntV w v k q := by
  rcases h.2 with ⟨rfl, h0⟩ | ⟨g, cap, cur, rfl, hb, hgg, hcap, hm, hs, ht⟩
  · subst h0; exact none_intV w q 0
  · refine ⟨_, _, rfl, ⟨hk, hcap⟩, fun _ => ⟨g, 0, rfl, fun c hc => ?_⟩⟩
    have := World.ownsRow.cells h (g := g) rfl c (Value.int .i64 (q c)) (numL_get hc)
    rwa [add_pl] at this
/-- A row that was written out, or made, in a block of its own. -/
theorem row_intV {w : World} {b n : Nat} {q : Nat → Int} (h : w.rowIs b /-t-/3 n (fun i => .int .i64 (q i))) (hn : n ≤ 140737488351232) : IntV w (.slice (some ⟨b, 0, none⟩) n n) n q :=
  ⟨_, _, rfl, ⟨hn, Nat.le_refl _⟩, fun _ => ⟨b, 0, rfl, fun c hc => by rw [Nat.zero_add]; exact h.cell hc⟩⟩
theorem made_int (n : Nat) (w : World) (hn : n ≤ 1048576) : (Instr.makeSlice 62 (.int .i64 (n : Int)) (.int .i64 (n : Int))).run Try.prog w = .ok (.slice (some ⟨w.heap.size, 0, none⟩) n n) (w.alloc (.cells (madeCells #[.int .i64 0] n) /-t-/3)) := by
  obtain ⟨i0, hi, hz0, hz1, hz2⟩ := info_parts Try.infoI
  have := run_make (P := Try.prog) w 62 /-t-/3 i0 (.int .i64 0) underI hi hz0 .i64 .i64 n n (by omega) (by omega) (by rw [hz2]; omega) (by omega)
  rw [hz1, Int.toNat_natCast, Nat.mul_one] at this
  exact this
theorem made_row (n : Nat) (w : World) : (w.alloc (.cells (madeCells #[.int .i64 0] n) /-t-/3)).rowIs w.heap.size /-t-/3 n (fun _ => .int .i64 0) := World.rowIs_made w (.int .i64 0) n /-t-/3

/-! ### a number behind them -/
theorem wpList_appI {ops : Array Oper} {rest : List Oper} {o : Oper} {a : Act} {Q : Exit → Act → World → Prop} (w : World) (hgd : o.guard = none) (s x : Operand)
    (ho : o.op = .call { callee := .builtin .append, args := #[s, x], argTypes := #[ 62, 62] }) (hty : o.type = 62) (sv xv v' : Value) (w' : World) (hs : a.eval s = sv) (hx : a.eval x = xv)
    (hrun : (Builtin.append_ #[ 62, 62] 62 #[sv, xv]).run Try.prog w = .ok v' w') (h : wpList Try.prog ops Q rest (a.put o.dst v') w') : wpList Try.prog ops Q (o :: rest) a w := by
  refine wpList_plain hgd fun _ hK => ?_
  unfold Oper.wp execOp
  simp only [ho, hty, resolve, invoke, builtin, Sem.run_bind, Sem.run_pure, Result.andThen_ok, List.map_toArray, List.map_cons, List.map_nil, hs, hx, hrun]
  exact hK _ _ h
/-- Numbers that a call has gathered, one behind the other, since 'w'. -/
structure Nums (w wr : World) (v : Value) (k : Nat) (q : Nat → Int) : Prop where
  own : wr.ownsRow w.heap.size /-t-/3 1 v k (numL k q)
  ch : Ch (fun _ => False) w wr
theorem Nums.start (w : World) (q : Nat → Int) : Nums w w (.slice none 0 0) 0 q := ⟨World.ownsRow_nil w w.heap.size /-t-/3 1, Ch.refl _ w⟩
theorem Nums.app {w wr : World} {v : Value} {k : Nat} {q : Nat → Int} (h : Nums w wr v k q) (hk : k ≤ 1048576) :
    ∃ g cap w2, (∀ x, x = q k → (Builtin.append_ #[ 62, 62] 62 #[v, .slice (some ⟨wr.heap.size, 0, none⟩) 1 1]).run Try.prog (wr.alloc (.cells #[.int .i64 x] /-t-/3)) = .ok (.slice (some ⟨g, 0, none⟩) (k + 1) cap) w2) ∧ Nums w w2 (.slice (some ⟨g, 0, none⟩) (k + 1) cap) (k + 1) q := by
  obtain ⟨i0, hi, hz0, hz1, hz2⟩ := info_parts Try.infoI
  have k1 : Ch (fun _ => False) wr (wr.alloc (.cells #[.int .i64 (q k)] /-t-/3)) := (Ch.refl _ wr).alloc _ _
  obtain ⟨g, cap, w2, hr, h2, h3, h4, _⟩ := run_append_lies (P := Try.prog) (wr.alloc (.cells #[.int .i64 (q k)] /-t-/3)) 62 62 w.heap.size /-t-/3 i0 (.int .i64 0) 1 8 underI hi hz0 hz1 hz2 rfl (by decide) v k (numL k q) (ownsRow_ch h.own k1) ⟨wr.heap.size, 0, none⟩ 1 1 [.int .i64 (q k)] rfl (fun j u hu => by
    rw [add_pl, blk_cell (heap_alloc_new wr _), Nat.zero_add]
    show ([Value.int .i64 (q k)].toArray)[j]? = some u
    rw [List.getElem?_toArray]
    exact hu) (fun u hu => by rw [List.mem_singleton.1 hu]; rfl) (by omega) (by unfold maxLen; omega) (by omega) (Nat.le_trans h.ch.size k1.size) _ rfl
  rw [← numL_snoc] at h2
  refine ⟨g, cap, w2, fun x hx => by subst hx; exact hr, h2, ?_⟩
  have kc := h.ch.trans k1
  have k2 : Ch (fun i => v.ownBlock = some i) (wr.alloc (.cells #[.int .i64 (q k)] /-t-/3)) w2 := (Ch.refl _ _).grown h3 (fun i hi => Or.inl hi)
  refine kc.new (k2.mono fun i _ hi => ?_)
  exact (own_at h.own hi).1
#print axioms Nums.app

/-! ### a row that is handed in -/
theorem cellsN : Try.prog.cellsOf /-t-/3 = 1 := by kernel_rfl
theorem bytesN : Try.prog.bytesOf /-t-/3 = 8 := by kernel_rfl
theorem open_ints_arg {H : Type} {enc : TypeId × Value → H} {W : World} {v : Value} {d : DataW H} {p : List MemPlace} (hv : ∃ a len cap, v = .slice a len cap) (h : DataW.Trod enc Try.prog W 0 (fun _ => true) true 62 v d p)
    (s1 : ∀ elems spare, d = .slice elems spare → (elems.length + spare.length) * 8 ≤ reachBytes) : ∃ n q, IntV W v n q := by
  obtain ⟨a0, len, cap, rfl⟩ := hv
  obtain ⟨fuel, hf⟩ := h
  rcases open_ints underI underN cellsN hf with ⟨hcs0, hx⟩ | ⟨a, len', cap', zs, hcs0, _, hl, hm, hzl, hx, hcell, hwf⟩
  · simp [Value.cells] at hcs0
    obtain ⟨rfl, rfl, rfl⟩ := hcs0
    exact ⟨0, fun _ => 0, none_intV W _ 0⟩
  · simp [Value.cells] at hcs0
    obtain ⟨rfl, rfl, rfl⟩ := hcs0
    simp only [Prod.mk.injEq] at hx
    obtain ⟨rfl, rfl⟩ := hx
    simp only [if_true] at hzl
    have hlen := s1 _ _ rfl
    simp only [lits, List.length_map, List.length_take, List.length_drop, hzl, reach_eq] at hlen
    refine ⟨len, fun c => zs.getD c 0, some a, cap, rfl, by omega, fun h0 => ?_⟩
    obtain ⟨b, o, rfl⟩ := addr_none (hcell 0 (by omega))
    exact ⟨b, o, rfl, fun c hc => by have hcc := hcell c (by omega); rwa [add_pl] at hcc⟩
#print axioms open_ints_arg
end Go.Proofs.Ytjdknebifcdicaa
namespace Go.Proofs.Ytjdknebifcdicaa
open Go.RowKit
set_option linter.unusedVariables false
set_option maxRecDepth 100000

/-! ### May -/
set_option maxHeartbeats 1600000 in
theorem rgmay_any (g : Ge) (w : World) : Calls Try.prog 36 #[.agg (geC g)] w (Ans (.bool (mayG g)) w) := by
  obtain ⟨w1, H, hR⟩ := geR w g
  obtain ⟨x0, x1, x2, x3⟩ := hR.x
  have HR := Lib.hid hR
  clear hR
  cases t1 : mayG g
  · obtain ⟨a, b, c, d⟩ := g
    simp only at x0 x1 x2 x3
    have hcase : (a < 8 ∨ (8 ≤ a ∧ 512 < a)) ∨ ((8 ≤ a ∧ a ≤ 512) ∧ (b < 1 ∨ (1 ≤ b ∧ 32 < b))) ∨ ((8 ≤ a ∧ a ≤ 512) ∧ (1 ≤ b ∧ b ≤ 32) ∧ (c < 1 ∨ (1 ≤ c ∧ 16 < c))) ∨ ((8 ≤ a ∧ a ≤ 512) ∧ (1 ≤ b ∧ b ≤ 32) ∧ (1 ≤ c ∧ c ≤ 16) ∧ (d < 1 ∨ (1 ≤ d ∧ 8 < d))) := by
      have h2 : ¬ ((8 ≤ a ∧ a ≤ 512) ∧ (1 ≤ b ∧ b ≤ 32) ∧ (1 ≤ c ∧ c ≤ 16) ∧ (1 ≤ d ∧ d ≤ 8)) := fun q => by
        have : mayG ⟨a, b, c, d⟩ = true := by
          rw [mayG_eq]
          simp only [Bool.and_eq_true, inB_true]
          exact q
        rw [t1] at this
        cases this
      omega
    have HC := Lib.hid hcase
    clear hcase t1
    rcases HC.out with (h | ⟨h, k⟩) | ⟨⟨p1, p2⟩, (h | ⟨h, k⟩)⟩ | ⟨⟨p1, p2⟩, ⟨p3, p4⟩, (h | ⟨h, k⟩)⟩ | ⟨⟨p1, p2⟩, ⟨p3, p4⟩, ⟨p5, p6⟩, (h | ⟨h, k⟩)⟩
    all_goals (
      clear HC
      go_enter Try.func36, Try.ntmps36
      go_wp2_with ((with_reducible refine wpList_isOp (.box 23 (.tmp 0)) rfl ?_); refine wpList_boxing _ w1 rfl 23 (.tmp 0) rfl (geC ⟨a, b, c, d⟩) H rfl (by exact HR.out.sz) (by exact HR.out.al) ?_)
      go_ret
      exact ⟨rfl, HR.out.ch⟩)
  · obtain ⟨n, hn, rfl⟩ := may_nat t1
    obtain ⟨⟨p1, p2⟩, ⟨p3, p4⟩, ⟨p5, p6⟩, ⟨p7, p8⟩⟩ := may_parts t1
    have HD := Lib.hid (show decide (wrap64 (4 + 2 * n.ge.wal + wrap64 (2 * n.ge.st * (n.ge.k + n.ge.m))) ≤ 4096) = true by
      have b1 := hn.tot2
      have b2 := hn.t2
      have e0 : n.ge.st * (n.ge.k + n.ge.m) = ((n.S * n.q : Nat) : Int) := by unfold Gn.q; rw [Int.natCast_mul, Int.natCast_add]; rfl
      rw [Int.mul_assoc, e0, IntWalk.wrap64_in (2 * ((n.S * n.q : Nat) : Int)) ⟨by omega, by omega⟩, IntWalk.wrap64_in _ ⟨by omega, by omega⟩]
      exact decide_eq_true (by omega))
    clear hn t1
    go_enter Try.func36, Try.ntmps36
    go_wp2_with ((with_reducible refine wpList_isOp (.box 23 (.tmp 0)) rfl ?_); refine wpList_boxing _ w1 rfl 23 (.tmp 0) rfl (geC n.ge) H rfl (by exact HR.out.sz) (by exact HR.out.al) ?_)
    go_ret
    exact ⟨ret_bool HD.out, HR.out.ch⟩
#print axioms rgmay_any

/-! ### Groups, Bears -/
/-! ### Ints -/
def eqI (n m : Nat) (q r : Nat → Int) : Bool := decide (n = m ∧ ∀ c, c < n → q c = r c)
theorem eqI_self (n : Nat) (q : Nat → Int) : eqI n n q q = true := decide_eq_true ⟨rfl, fun _ _ => rfl⟩
end Go.Proofs.Ytjdknebifcdicaa
namespace Go.Proofs.Ytjdknebifcdicaa
open Go.RowKit Go.Shelf Cod
set_option linter.unusedVariables false
set_option maxRecDepth 100000

theorem one_owned (w : World) {x : Int} {y : Nat} (h : x = (y : Int)) : (w.alloc (.cells #[.int .u8 x] /-t-/5)).ownsRow w.heap.size /-t-/5 1 (.slice (some ⟨w.heap.size, 0, none⟩) 1 1) 1 (bytesL 1 (Cod.litZ [y])) := by
  subst h
  exact ⟨rfl, Or.inr ⟨w.heap.size, 1, #[.int .u8 (y : Int)], rfl, Nat.le_refl _, heap_alloc_new w _, Nat.le_refl _, (by unfold maxLen; omega), rfl, rfl⟩⟩
def DigAt (half : Nat) : Prop := ∀ (odd : Nat) (w : World), odd ≤ 1 → Calls Try.prog 51 #[.int .i64 (half : Int), .int .i64 (odd : Int)] w (NewL (digs (2 * half + odd)).length (Cod.litZ (digs (2 * half + odd))) w)
set_option maxHeartbeats 400000 in
theorem rnum_of (n : Nat) (hn : n ≤ 9223372036854775807) (h : DigAt (n / 2)) (w : World) : Calls Try.prog 28 #[.int .i64 (n : Int)] w (NewL (digs n).length (Cod.litZ (digs n)) w) := by
  have H := Lib.hid (h (n % 2) w (by omega))
  rw [show 2 * (n / 2) + n % 2 = n by omega] at H
  have e1 : ((n / 2 : Nat) : Int) = (n : Int) / 2 := by omega
  have e2 : ((n % 2 : Nat) : Int) = (n : Int) % 2 := by omega
  rw [e1, e2] at H
  clear h e1 e2
  go_enter Try.func28, Try.ntmps28
  go_wp2_with fail
  refine H.out.mono ?_
  rintro e w1 ⟨v, rfl, h1, h2⟩
  have H1 := Lib.hid h1
  have H2 := Lib.hid h2
  clear h1 h2
  go_wp2
  go_ret
  exact ⟨_, rfl, H1.out, H2.out⟩
set_option maxHeartbeats 1000000 in
theorem rdigits_all (half : Nat) : half ≤ 9223372036854775807 → DigAt half := by
  induction half using Nat.strongRecOn with
  | _ half ih =>
    intro hh odd w ho
    by_cases hs : half < 64
    · rw [digs_small (show 2 * half + odd < 128 by omega)]
      have HO := Lib.hid (one_owned w (x := 2 * (half : Int) + (odd : Int)) (y := 2 * half + odd) (by omega))
      have t1 : decide ((half : Int) < 64) = true := by simp; omega
      clear ih
      go_enter Try.func51, Try.ntmps51
      go_wp2
      go_ret
      exact ⟨_, rfl, HO.out, (Ch.refl _ w).alloc _ _⟩
    · have t1 : decide ((half : Int) < 64) = false := by simp; omega
      have HN := Lib.hid (fun w : World => rnum_of (half / 64) (by omega) (ih (half / 64 / 2) (by omega) (by omega)) w)
      have HD := Lib.hid (digs_big (n := 2 * half + odd) (by omega))
      rw [show (2 * half + odd) % 128 + 128 = 2 * (half % 64) + odd + 128 by omega, show (2 * half + odd) / 128 = half / 64 by omega] at HD
      have e1 : ((half / 64 : Nat) : Int) = (half : Int) / 64 := by omega
      have HO := Lib.hid (one_owned w (x := 2 * ((half : Int) % 64) + (odd : Int) + 128) (y := 2 * (half % 64) + odd + 128) (by omega))
      have hlen := digs_len10 (n := half / 64) (by omega)
      clear ih
      go_enter Try.func51, Try.ntmps51
      go_wp2_with fail
      rw [← e1]
      refine (HN.out _).mono ?_
      rintro e w1 ⟨v, rfl, h1, h2⟩
      have hr := ownsRow_rowV h1 (by omega) (fun c _ => litZ_b (digs_b _) c)
      obtain ⟨v2, w2, hr2, ho2, hg2, _⟩ := app_row (ownsRow_ch HO.out h2) (by have := h2.size; simp at this; omega) hr (by omega)
      have hlit : bytesL (1 + (digs (half / 64)).length) (jnZ 1 (Cod.litZ [2 * (half % 64) + odd + 128]) (Cod.litZ (digs (half / 64)))) = bytesL (digs (2 * half + odd)).length (Cod.litZ (digs (2 * half + odd))) := by
        rw [HD.out, List.length_cons, Nat.add_comm 1]
        exact bytesL_congr fun c hc => litZ_app [2 * (half % 64) + odd + 128] _ c
      have hl2 : 1 + (digs (half / 64)).length = (digs (2 * half + odd)).length := by rw [HD.out, List.length_cons, Nat.add_comm]
      rw [hlit, hl2] at ho2
      have HR := Lib.hid hr2
      have H2 := Lib.hid ho2
      have HC := Lib.hid ((((Ch.refl (fun _ => False) w).alloc #[.int .u8 (2 * ((half : Int) % 64) + (odd : Int) + 128)] /-t-/5).trans h2).grown hg2 (fun i e => Or.inr (World.ownsRow.lt (ownsRow_ch HO.out h2) i e).1))
      clear hr hr2 ho2 hg2 h1 h2 hlit hl2 hlen
      go_wp2_with (at_builtin; refine wpList_app_of _ rfl (.tmp 20) (.tmp 23) rfl rfl _ _ v2 w2 rfl rfl HR.out ?_)
      go_ret
      exact ⟨_, rfl, H2.out, HC.out⟩
theorem rnum_any (n : Nat) (hn : n ≤ 9223372036854775807) (w : World) : Calls Try.prog 28 #[.int .i64 (n : Int)] w (NewL (digs n).length (Cod.litZ (digs n)) w) := rnum_of n hn (rdigits_all _ (by omega)) w
#print axioms rnum_any
/-! ### Bytes -/
end Go.Proofs.Ytjdknebifcdicaa
