/-
  From, and the function to range over that it gives.
-/
import Derived.Test.YtkpgaejmhddkdaaTrFa
namespace Go.Proofs.Ytkpgaejmhddkdaa
open Go.RowKit
set_option linter.unusedVariables false
set_option maxRecDepth 100000
set_option linter.unusedSimpArgs false
attribute [local go_sem] Oper.semAt_some wide_fn wide_depth

theorem from_any (l : Nat) (k : ByteArray) (T : List Kv) (J Jx : List Kv → World → Prop) (hJ : ∀ s W W', J s W → W.grownBy W' none → J s W')
    (hY : ∀ pre x V n, J pre V → pre.length < T.length → YieldAt Fence.wide n Try.prog l #[.string x.1, .int .i64 x.2] V fun e V' => (e = .returned (.bool true) ∧ J (pre ++ [x]) V' ∧ KpT V V') ∨ (e = .returned (.bool false) ∧ Jx (pre ++ [x]) V')) : ∀ h, FromAt l k T J Jx h
  | 0 => from_zero l k T J Jx
  | h + 1 => from_succ l k T J Jx hJ hY h (from_any l k T J Jx hJ hY h)
/-- A tree that may be none. -/
def TreeO (w : World) : Option Nat → Nat → List Kv → Prop
  | none, h, L => h = 0 ∧ L = []
  | some t, h, L => TreeIs w t h L
theorem TreeO.gr {w w' : World} {h : Nat} {L : List Kv} : ∀ {o : Option Nat}, TreeO w o h L → Ch (fun _ => False) w w' → TreeO w' o h L
  | none, q, _ => q
  | some _, q, c => TreeIs.gr q c
theorem ttop_none (w : World) : Calls Try.prog 24 #[.pointer none] w fun e w' => e = .returned (.pointer none) ∧ w' = w := by
  go_enter Try.func24, Try.ntmps24
  go_wp2
  go_ret
  exact ⟨rfl, rfl⟩
theorem TreeO.top {w : World} {h : Nat} {L : List Kv} {o : Option Nat} (q : TreeO w o h L) : Rise L ∧ ∃ root m, Calls Try.prog 24 #[ptrV o] w (fun e w' => e = .returned (ptrV root) ∧ w' = w) ∧ TrT h w root m L ∧ (0 < h → 1 ≤ m ∧ m ≤ 7) := by
  cases o with
  | none =>
    obtain ⟨rfl, rfl⟩ := q
    exact ⟨List.Pairwise.nil, none, 0, ttop_none w, ⟨rfl, rfl, rfl⟩, fun f => absurd f (Nat.lt_irrefl 0)⟩
  | some t =>
    obtain ⟨F, root, m, hb, hT, hm, hr, _⟩ := q
    exact ⟨hr, root, m, ttop_any (h := h) hb, hT.typ, hm⟩
theorem neq_yield (l : Nat) (w : World) : (binOp .neq 50 (.func (.yield l) #[] #[]) .nilFunc).run Try.prog w = .ok (.bool true) w := by
  obtain ⟨a, b, c, hu⟩ : ∃ a b c, Try.prog.underlying 50 = some (.func a b c) := ⟨_, _, _, Try.underlying50⟩
  have hg : ∀ n, (Op.equalIn (n + 1) 50 (.func (.yield l) #[] #[]) .nilFunc).run Try.prog w = .ok false w := fun n => by simp [Op.equalIn, run_underlying hu]
  have hm : (Op.equalIn Op.maxDepth 50 (.func (.yield l) #[] #[]) .nilFunc).run Try.prog w = .ok false w := hg 9999
  simp [binOp, Op.equal, hm]
def encK (x : Kv) : Array Value := #[.string x.1, .int .i64 x.2]
def frF (Bt Bk : Nat) : Value := .func (.func 27) #[] #[.pointer (some ⟨Bt, 0, none⟩), .pointer (some ⟨Bk, 0, none⟩)]
theorem tfrom_any (o : Option Nat) (k : ByteArray) (w : World) : Calls Try.prog 21 #[ptrV o, .string k] w fun e w' => ∃ Bt Bk, e = .returned (frF Bt Bk) ∧ w'.heap[Bt]? = some (.cells #[ptrV o] 25 (0, 0)) ∧ w'.heap[Bk]? = some (.cells #[.string k] 9 (0, 0)) ∧ w.heap.size ≤ Bt ∧ w.heap.size ≤ Bk ∧ Ch (fun _ => False) w w' := by
  cases o with
  | none =>
    have e1 : (w.alloc (.cells #[(.pointer none)] 25)).heap.size = w.heap.size + 1 := by simp
    have h1 : (w.alloc (.cells #[(.pointer none)] 25)).heap[w.heap.size]? = some (.cells #[(.pointer none)] 25 (0, 0)) := heap_alloc_new _ _
    have h2 : ((w.alloc (.cells #[(.pointer none)] 25)).alloc (.cells #[.string k] 9)).heap[w.heap.size + 1]? = some (.cells #[.string k] 9 (0, 0)) := by rw [← e1]; exact heap_alloc_new _ _
    have c1 := (Ch.refl (fun _ => False) (w.alloc (.cells #[(.pointer none)] 25))).alloc #[.string k] 9
    have HB : Hid (((w.alloc (.cells #[(.pointer none)] 25)).alloc (.cells #[.string k] 9)).heap[w.heap.size]? = some (.cells #[(.pointer none)] 25 (0, 0)) ∧ ((w.alloc (.cells #[(.pointer none)] 25)).alloc (.cells #[.string k] 9)).heap[w.heap.size + 1]? = some (.cells #[.string k] 9 (0, 0)) ∧ Ch (fun _ => False) w ((w.alloc (.cells #[(.pointer none)] 25)).alloc (.cells #[.string k] 9))) :=
      Lib.hid ⟨(c1.block _ (blk_lt h1) (fun f => f)).trans h1, h2, ((Ch.refl _ w).alloc _ _).trans c1⟩
    clear e1 h1 h2 c1
    show Calls Try.prog 21 #[(.pointer none), .string k] w _
    go_enter Try.func21, Try.ntmps21
    go_wp2
    go_ret
    exact ⟨w.heap.size, w.heap.size + 1, rfl, HB.out.1, HB.out.2.1, Nat.le_refl _, Nat.le_succ _, HB.out.2.2⟩
  | some t =>
    have e1 : (w.alloc (.cells #[(.pointer (some ⟨t, 0, none⟩))] 25)).heap.size = w.heap.size + 1 := by simp
    have h1 : (w.alloc (.cells #[(.pointer (some ⟨t, 0, none⟩))] 25)).heap[w.heap.size]? = some (.cells #[(.pointer (some ⟨t, 0, none⟩))] 25 (0, 0)) := heap_alloc_new _ _
    have h2 : ((w.alloc (.cells #[(.pointer (some ⟨t, 0, none⟩))] 25)).alloc (.cells #[.string k] 9)).heap[w.heap.size + 1]? = some (.cells #[.string k] 9 (0, 0)) := by rw [← e1]; exact heap_alloc_new _ _
    have c1 := (Ch.refl (fun _ => False) (w.alloc (.cells #[(.pointer (some ⟨t, 0, none⟩))] 25))).alloc #[.string k] 9
    have HB : Hid (((w.alloc (.cells #[(.pointer (some ⟨t, 0, none⟩))] 25)).alloc (.cells #[.string k] 9)).heap[w.heap.size]? = some (.cells #[(.pointer (some ⟨t, 0, none⟩))] 25 (0, 0)) ∧ ((w.alloc (.cells #[(.pointer (some ⟨t, 0, none⟩))] 25)).alloc (.cells #[.string k] 9)).heap[w.heap.size + 1]? = some (.cells #[.string k] 9 (0, 0)) ∧ Ch (fun _ => False) w ((w.alloc (.cells #[(.pointer (some ⟨t, 0, none⟩))] 25)).alloc (.cells #[.string k] 9))) :=
      Lib.hid ⟨(c1.block _ (blk_lt h1) (fun f => f)).trans h1, h2, ((Ch.refl _ w).alloc _ _).trans c1⟩
    clear e1 h1 h2 c1
    show Calls Try.prog 21 #[(.pointer (some ⟨t, 0, none⟩)), .string k] w _
    go_enter Try.func21, Try.ntmps21
    go_wp2
    go_ret
    exact ⟨w.heap.size, w.heap.size + 1, rfl, HB.out.1, HB.out.2.1, Nat.le_refl _, Nat.le_succ _, HB.out.2.2⟩
#print axioms tfrom_any
set_option maxHeartbeats 3200000 in
theorem from1_in (n l Bt Bk h : Nat) (o : Option Nat) (L : List Kv) (k : ByteArray) (J Jx : List Kv → World → Prop) (W : World) (hJ : AbidesFrom W.heap.size J)
    (hY : ∀ pre x W1, J pre W1 → pre.length < (fromL L k).length → YieldAt Fence.wide (n - 1) Try.prog l (encK x) W1 fun e W' =>
      (e = .returned (.bool true) ∧ J (pre ++ [x]) W' ∧ KpT W1 W') ∨ (e = .returned (.bool false) ∧ Jx (pre ++ [x]) W'))
    (ht : TreeO W o h L) (hBt : W.heap[Bt]? = some (.cells #[ptrV o] 25 (0, 0))) (hBk : W.heap[Bk]? = some (.cells #[.string k] 9 (0, 0))) (h0 : J [] W) :
    CallsIn Fence.wide n Try.prog 27 #[.func (.yield l) #[] #[], .pointer (some ⟨Bt, 0, none⟩), .pointer (some ⟨Bk, 0, none⟩)] W fun e W' => (∃ v, e = .returned v) ∧
      ((∃ ys : List Kv, ys = fromL L k ∧ J ys W') ∨ (∃ pre : List Kv, pre <+: fromL L k ∧ Jx pre W')) := by
  have kd : Ch (fun _ => False) W W.drew := (Ch.refl _ W).drew
  obtain ⟨hr, root, m, hC, hT, hm⟩ := (ht.gr kd).top
  have hJ' : ∀ s W1 W2, J s W1 → W1.grownBy W2 none → J s W2 := fun s W1 W2 q g => hJ s W1 W2 none q g (fun _ e => by cases e)
  have hF := from_any l k (fromL L k) J Jx hJ' (fun pre x V m q hl => yieldAt_n (hY pre x V q hl)) h root m L [] [] W.drew n hT hr hm (by simp) (hJ' _ _ _ h0 (grown_ch kd))
  obtain ⟨v, hv⟩ : ∃ v, v = ptrV o := ⟨_, rfl⟩
  rw [← hv] at hBt hC
  obtain ⟨v2, hv2⟩ : ∃ v2, v2 = ptrV root := ⟨_, rfl⟩
  rw [← hv2] at hF hC
  have b1 : W.cell? ⟨Bt, 0, none⟩ = some v := blk_cell hBt
  have b2 : W.cell? ⟨Bk, 0, none⟩ = some (.string k) := blk_cell hBk
  have hF2 := (callsIn_wide.1 hF).mono (R' := fun e W' => ∃ bv, e = .returned bv ∧ Hid (((∃ ys : List Kv, ys = fromL L k ∧ J ys W') ∨ (∃ pre : List Kv, pre <+: fromL L k ∧ Jx pre W')))) (by
    rintro e W' (⟨rfl, q, _⟩ | ⟨rfl, q⟩)
    · exact ⟨_, rfl, Lib.hid (Or.inl ⟨_, rfl, q⟩)⟩
    · exact ⟨_, rfl, Lib.hid (Or.inr q)⟩)
  have HF := Lib.hid hF2
  have HC := Lib.hid hC
  have hne := neq_yield l W
  clear hF hF2 hC hT hm hr hJ' hJ hY ht h0 hBt hBk hv hv2 kd
  refine callsIn_of_wp Try.func27 rfl trivial ?_ rfl
  simp only [Try.ntmps27, List.size_toArray, List.length_cons, List.length_nil, Nat.reduceAdd, Nat.reduceSub, Array.replicate_succ, Array.replicate_zero, List.push_toArray, List.append_toArray, List.nil_append, List.cons_append]
  gi_upto_region 1 with fail
  refine wpIn_wide.2 ?_
  go_region_with (first
    | (refine HC.out.mono ?_; rintro e w1 ⟨rfl, rfl⟩)
    | (refine HF.out.mono ?_; rintro e w2 ⟨bv, rfl, HFIN⟩)
    | fail)
  all_goals
    go_end0
    exact ⟨⟨_, rfl⟩, HFIN.out⟩
#print axioms from1_in
end Go.Proofs.Ytkpgaejmhddkdaa
