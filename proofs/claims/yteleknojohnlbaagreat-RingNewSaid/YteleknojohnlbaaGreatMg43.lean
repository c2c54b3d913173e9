/-
  keep, walked: each, One, All, Mend. ring.load and Load, walked: what is read of both mirrors.
-/
import Derived.Test.YteleknojohnlbaaGreatMg42
import Derived.Test.YteleknojohnlbaaGreatMg12
namespace Go.Proofs.YteleknojohnlbaaGreat
open Go.RowKit
set_option linter.unusedVariables false
set_option maxRecDepth 100000

/-! ### one by one -/
theorem PutIs.put {w : World} {X F : Nat → Prop} {K b o sb so sC : Nat} {P : PutP} (h : PutIs w X b o sb so sC P) (hX : ∀ i, X i → ¬ F i ∧ i ≠ K) : PutA w F K sb so sC P := ⟨h.row, (hX sb h.X).1, (hX sb h.X).2, h.lt⟩
set_option maxHeartbeats 3200000 in
theorem each_any (g : FuncId) (hg : g = 128 ∨ False) (base : Nat) (F X : Nat → Prop) (B K n : Nat) (f : Nat → PutP) (A : Option Addr) (C : Nat) (D : Nat → Dev) (E : Nat → Int) (G : Nat → Nat) (w : World)
    (h : KpS base F w w B K (D 0) (G 0)) (h0 : E 0 = 0) (hF : KpF base F w K) (hV : PutsV w X A n f) (hX : ∀ i, X i → ¬ F i ∧ i ≠ K)
    (hstep : ∀ k, k < n → E k = 0 → ∀ (wr : World) (sb so sC : Nat), KpS base F w wr B K (D k) (G k) → PutA w F K sb so sC (f k) →
      Calls Tryz.prog g #[.pointer (some ⟨K, 0, none⟩), .agg #[.int .i64 (f k).pl, .slice (some ⟨sb, so, none⟩) (f k).n sC]] wr fun e w' => e = .returned (.int .i64 (E (k + 1))) ∧ KpS base F w w' B K (D (k + 1)) (G (k + 1)))
    (hstop : ∀ k, k ≤ n → E k ≠ 0 → E n = E k ∧ D n = D k ∧ G n = G k) :
    Calls Tryz.prog 127 #[.slice A n C, .func (.func g) #[.pointer (some ⟨K, 0, none⟩)] #[]] w fun e w' => e = .returned (.int .i64 (E n)) ∧ KpS base F w w' B K (D n) (G n) := by
  have hn := hV.1
  have HF := Lib.hid hF
  have HV := Lib.hid hV
  have HX := Lib.hid hX
  have HG := Lib.hid hg
  have HST := Lib.hid hstep
  have HE0 := Lib.hid h0
  have HS := Lib.hid h
  have HFIN := Lib.hid (show ∀ (wr : World) (k : Nat) (e : Int), k ≤ n → (E k ≠ 0 ∨ k = n) → KpS base F w wr B K (D k) (G k) → E k = e → Ending.returned (.int .i64 e) = .returned (.int .i64 (E n)) ∧ KpS base F w wr B K (D n) (G n) from fun wr k e hk hs q h2 => by
    rcases hs with hs | rfl
    · obtain ⟨e1, e2, e3⟩ := hstop k hk hs
      rw [e1, e2, e3, h2]
      exact ⟨rfl, q⟩
    · rw [h2]
      exact ⟨rfl, q⟩)
  clear h h0 hF hV hX hg hstep hstop
  go_enter Tryz.func127, Tryz.ntmps127
  go_wp2
  go_loopw [6, 7, 10, 11, 12, 13, 14, 15, 16, 17, 18, 19, 20] (fun _ _ i _ _ _ _ _ _ _ _ _ _ wr => ∃ k : Nat, k ≤ n ∧ i = .int .i64 k ∧ Hid (E k = 0) ∧ Hid (KpS base F w wr B K (D k) (G k))) (fun _ _ i _ _ _ _ _ _ _ _ _ _ _ => n - (intOf i).toNat)
  case atStart => exact ⟨0, Nat.zero_le _, rfl, HE0, HS⟩
  case round =>
    obtain ⟨k, hk, rfl, HE, HD⟩ := hrel
    clear HS
    by_cases hlt : k < n
    · obtain ⟨b, o, rfl, hb, hc⟩ := HV.out.2 (by omega)
      obtain ⟨sb, so, sC, hp⟩ := hc k hlt
      have i1 : (0 : Int) ≤ (k : Int) := Int.natCast_nonneg _
      have i2 : (k : Int) < (n : Int) := by omega
      obtain ⟨d0, d1⟩ := HD.out.put hp HX.out hb
      have ld := load_put d0 d1
      obtain ⟨wz, wx, H, hR⟩ := varR (t := 164) (u := .int .i64 0) (v := .slice none 0 0) (x := .int .i64 (f k).pl) (y := .slice (some ⟨sb, so, none⟩) (f k).n sC) size_put rfl rfl wr
      have l2 := load_put (w := wx) (b := H) (o := 0) (blk_cell hR.cx) (blk_cell hR.cx)
      have HO := Lib.hid (HST.out k hlt HE.out wx sb so sC (HD.out.gr hR.ch) (hp.put HX.out))
      have HR := Lib.hid hR
      have HLT := Lib.hid hlt
      obtain ⟨Y, hY⟩ : ∃ Y, Y = E (k + 1) := ⟨_, rfl⟩
      rw [← hY] at HO
      have HY := Lib.hid hY
      clear hc hp hb hlt hR d0 d1 hY HD
      rcases HG.out with hz | hz <;> first | exact hz.elim | subst hz
      all_goals (
        go_wp2_with (first
          | ((with_reducible refine wpList_isOp (.load 164 (.tmp 12)) rfl ?_); refine wpList_loading _ rfl 164 (.tmp 12) rfl _ ⟨b, o + k * 2, none⟩ rfl ld ?_)
          | ((with_reducible refine wpList_isOp (.alloc 164) rfl ?_); refine wpList_making _ wz rfl 164 rfl #[.int .i64 0, .slice none 0 0] H (zero_put _) (by exact HR.out.sz) (by exact HR.out.al) ?_)
          | ((with_reducible refine wpList_isOp (.store 164 (.tmp 6) (.tmp 13)) rfl ?_); refine wpList_storing _ wx rfl 164 (.tmp 6) (.tmp 13) rfl (.agg #[.int .i64 (f k).pl, .slice (some ⟨sb, so, none⟩) (f k).n sC]) ⟨H, 0, none⟩ rfl rfl (by exact HR.out.st) ?_)
          | ((with_reducible refine wpList_isOp (.load 164 (.tmp 6)) rfl ?_); refine wpList_loading _ rfl 164 (.tmp 6) rfl _ ⟨H, 0, none⟩ rfl l2 ?_)
          | fail)
        refine HO.out.mono ?_
        rintro e1 w2 ⟨rfl, hs2⟩
        have HS2 := Lib.hid hs2
        clear hs2 HO ld l2
        by_cases hE : Y = 0
        · subst hE
          have HLT2 := HLT.out
          go_wp2
          go_roundw
          case rel => exact ⟨k + 1, by omega, by go_num, Lib.hid HY.out.symm, HS2⟩
          case measure => simp [intOf]; omega
        · have HP := Lib.hid (HFIN.out w2 (k + 1) Y HLT.out (Or.inl (by rw [← HY.out]; exact hE)) HS2.out HY.out.symm)
          have t1 : (Y != 0) = true := by simpa using hE
          clear hE
          go_wp2
          go_ret
          exact HP.out)
    · obtain rfl : k = n := by omega
      have HP := Lib.hid (HFIN.out wr k 0 (Nat.le_refl _) (Or.inr rfl) HD.out HE.out)
      clear hlt
      go_wp2
      go_ret
      exact HP.out
#print axioms each_any

theorem PutsV.old {w : World} {X : Nat → Prop} {A : Option Addr} {n : Nat} {f : Nat → PutP} (h : PutsV w X A n f) : PutsV w (fun i => X i ∧ i < w.heap.size) A n f := by
  refine ⟨h.1, fun h0 => ?_⟩
  obtain ⟨b, o, hA, hb, hc⟩ := h.2 h0
  obtain ⟨sb, so, sC, hp⟩ := hc 0 h0
  refine ⟨b, o, hA, ⟨hb, World.block_lt_of_cell? _ _ hp.c0⟩, fun c hcn => ?_⟩
  obtain ⟨sb, so, sC, hp⟩ := hc c hcn
  exact ⟨sb, so, sC, hp.c0, hp.c1, hp.row, ⟨hp.X, hp.lt⟩, hp.lt⟩
/-! ### a keeper, made -/
section
variable {base : Nat} {w w1 wz wx : World} {p : Ph} {d : Dev} {K : Nat}
theorem VarR.kp (v : VarR w1 wz wx K #[.pointer none, .int .i64 0] #[.pointer (some ⟨p.B, 0, none⟩), .int .i64 0] 178) (k : Ch (fun _ => False) w w1) (h : DevIs base w p d) : KpS base (Foot p d) wx wx p.B K d 0 ∧ KpF base (Foot p d) wx K ∧ Ch (fun _ => False) w wx ∧ w.heap.size ≤ K := by
  have k2 := k.trans v.ch
  have hk : w.heap.size ≤ K := by have := v.sz; have := k.size; omega
  exact ⟨⟨⟨p, rfl, h.gr k2, fun i hi => Or.inl hi⟩, v.cx, Ch.refl _ wx⟩, ⟨by have := (h.foot (i := p.B) (Or.inl rfl)); have := k2.size; omega, fun i hi => ⟨(h.foot hi).1, Nat.lt_of_lt_of_le (h.foot hi).2 k2.size⟩, fun hi => by have := (h.foot hi).2; omega, blk_lt v.cx⟩, k2, hk⟩
end
/-! ### All -/
def cntA (f : Nat → PutP) (d : Dev) : Nat → Nat
  | 0 => 0
  | k + 1 => if (allTo f d k).e = 0 then kepC (allTo f d k).d (f k) (cntA f d k) else cntA f d k
theorem kepC_le (d : Dev) (P : PutP) (c : Nat) : kepC d P c ≤ c + 1 := by unfold kepC; split <;> omega
theorem cntA_le (f : Nat → PutP) (d : Dev) : ∀ k, cntA f d k ≤ k
  | 0 => Nat.le_refl _
  | k + 1 => by
    have ih := cntA_le f d k
    show (if (allTo f d k).e = 0 then kepC (allTo f d k).d (f k) (cntA f d k) else cntA f d k) ≤ k + 1
    split
    · exact Nat.le_trans (kepC_le _ _ _) (by omega)
    · omega
theorem cntA_stop {f : Nat → PutP} {d : Dev} {i : Nat} (h : (allTo f d i).e ≠ 0) : ∀ n, i ≤ n → cntA f d n = cntA f d i
  | 0, hn => by obtain rfl : i = 0 := by omega
                rfl
  | n + 1, hn => by
    by_cases q : i = n + 1
    · rw [q]
    · have ih := cntA_stop h n (by omega)
      show (if (allTo f d n).e = 0 then kepC (allTo f d n).d (f n) (cntA f d n) else cntA f d n) = _
      rw [allTo_stop h n (by omega), if_neg h, ih]
set_option maxHeartbeats 1600000 in
theorem kall_any (base : Nat) (X : Nat → Prop) (p : Ph) (d : Dev) (n : Nat) (f : Nat → PutP) (A : Option Addr) (C t : Nat) (w : World) (h : DevIs base w p d) (hV : PutsV w X A n f) (hX : ∀ i, X i → ¬ Foot p d i) (hXl : ∀ i, X i → i < w.heap.size) (hl : Lim d t) (hm : LimM d t) (ht : t + 13 * n ≤ 990000) :
    Calls Tryz.prog 110 #[.pointer (some ⟨p.B, 0, none⟩), .slice A n C] w (DPost base p d (allTo f d n).d (.int .i64 (allTo f d n).e) w) := by
  obtain ⟨wz, wx, K, hK⟩ := varR (t := 178) (u := .pointer none) (v := .int .i64 0) (x := .pointer (some ⟨p.B, 0, none⟩)) (y := .int .i64 0) size_kp rfl rfl w
  obtain ⟨q1, q2, q3, q4⟩ := hK.kp (Ch.refl _ w) h
  have HO := Lib.hid (each_any _ (Or.inl rfl) base (Foot p d) X p.B K n f A C (fun k => (allTo f d k).d) (fun k => (allTo f d k).e) (cntA f d) wx q1 rfl q2 (hV.gr q3) (fun i hi => ⟨hX i hi, by have := hXl i hi; omega⟩)
    (fun k hk he wr sb so sC q hp => by
      have e1 : allTo f d (k + 1) = ⟨kepD 4 (allTo f d k).d (f k), kepE 4 (allTo f d k).d (f k)⟩ := if_pos he
      have e2 : cntA f d (k + 1) = kepC (allTo f d k).d (f k) (cntA f d k) := if_pos he
      have hlk := allTo_lim (f := f) hl hm k
      have hck := cntA_le f d k
      rw [e1, e2]
      exact q.lift (kwrite_any base _ p.B K _ sb so sC _ _ (f k) wr q.now (q2.fn q.ch.size) (hp.now q) hlk.1 hlk.2 (by omega) (by omega)))
    (fun k hk he => by
      rw [allTo_stop he n hk, cntA_stop he n hk]
      exact ⟨rfl, rfl, rfl⟩))
  have HFIN := Lib.hid (show ∀ wr, KpS base (Foot p d) wx wr p.B K (allTo f d n).d (cntA f d n) → DPost base p d (allTo f d n).d (.int .i64 (allTo f d n).e) w (.returned (.int .i64 (allTo f d n).e)) wr from fun wr q => q.post q3 q4)
  have HK := Lib.hid hK
  clear h hV hX hXl hl hm ht hK q1 q2 q3 q4
  go_enter Tryz.func110, Tryz.ntmps110
  go_wp2_with (first
    | ((with_reducible refine wpList_isOp (.alloc 178) rfl ?_); refine wpList_making _ wz rfl 178 rfl #[.pointer none, .int .i64 0] K (zero_kp _) (by exact HK.out.sz) (by exact HK.out.al) ?_)
    | ((with_reducible refine wpList_isOp (.store 178 (.tmp 5) (.tmp 7)) rfl ?_); refine wpList_storing _ wx rfl 178 (.tmp 5) (.tmp 7) rfl (.agg #[.pointer (some ⟨p.B, 0, none⟩), .int .i64 0]) ⟨K, 0, none⟩ rfl rfl (by exact HK.out.st) ?_)
    | fail)
  refine HO.out.mono ?_
  rintro e w2 ⟨rfl, hs⟩
  have HP := Lib.hid (HFIN.out w2 hs)
  clear hs HO
  go_wp2
  go_ret
  exact HP.out
#print axioms kall_any

/-! ### Mend -/
theorem mendOne_c (d : Dev) (P : PutP) (c : Nat) : (mendOne d P c).c ≤ c + 1 := by
  unfold mendOne
  split
  · split
    · exact Nat.le_succ _
    · exact kepC_le _ _ _
  · exact Nat.le_succ _
end Go.Proofs.YteleknojohnlbaaGreat
namespace Go.Proofs.YteleknojohnlbaaGreat
open Go.RowKit
set_option linter.unusedVariables false
set_option maxRecDepth 100000
set_option linter.unusedSimpArgs false

/-! ### behind so many reads -/
def ldD (g : Ge) (mir : Int) (d : Dev) : Nat → Dev
  | 0 => d
  | k + 1 => readD (ldD g mir d k) (addrR g mir (k : Int))
def ldN (g : Ge) (mir : Int) (d : Dev) (k : Nat) : Nat := readL (ldD g mir d k) (addrR g mir (k : Int))
def ldZ (g : Ge) (mir : Int) (d : Dev) (k : Nat) : Nat → Nat := readZ (ldD g mir d k) (addrR g mir (k : Int))
section
variable (g : Ge) (mir : Int) (d : Dev)
theorem ldD_n : ∀ k, (ldD g mir d k).n = d.n
  | 0 => rfl
  | k + 1 => by
    have ih := ldD_n k
    show (readD (ldD g mir d k) _).n = d.n
    unfold readD; split <;> exact ih
theorem ldD_W : ∀ k, (ldD g mir d k).W = d.W
  | 0 => rfl
  | k + 1 => by
    have ih := ldD_W k
    show (readD (ldD g mir d k) _).W = d.W
    unfold readD; split <;> exact ih
theorem ldD_ops : ∀ k, (ldD g mir d k).ops ≤ d.ops + k
  | 0 => Nat.le_refl _
  | k + 1 => by
    have ih := ldD_ops k
    show (readD (ldD g mir d k) _).ops ≤ _
    unfold readD
    split
    · show (ldD g mir d k).ops + 1 ≤ _; omega
    · omega
end
/-! ### rows that were read -/
structure LdRow (w wr : World) (B W : Nat) (N : Nat → Nat) (Z : Nat → Nat → Nat) : Prop where
  row : ∃ s, wr.rowIs B /-t-/24 W s ∧ ∀ c, c < W → RowN w wr (s c) (N c) (Z c)
  lo : w.heap.size ≤ B
theorem LdRow.ch {S : Nat → Prop} {w wr w' : World} {B W : Nat} {N : Nat → Nat} {Z : Nat → Nat → Nat} (h : LdRow w wr B W N Z) (k : Ch S wr w') (hS : ∀ i, S i → i < w.heap.size) : LdRow w w' B W N Z := by
  obtain ⟨s, h1, h2⟩ := h.row
  exact ⟨⟨s, k.rowIs h1 fun q => by have := hS B q; have := h.lo; omega, fun c hc => (h2 c hc).ch k fun i hi hb => by have := hS i hi; omega⟩, h.lo⟩
theorem LdRow.read {w wr : World} {B W : Nat} {N : Nat → Nat} {Z : Nat → Nat → Nat} (h : LdRow w wr B W N Z) (hW : W ≤ 1000000) : BsV wr (some ⟨B, 0, none⟩) W W N Z := by
  obtain ⟨s, h1, h2⟩ := h.row
  refine ⟨by omega, Nat.le_refl _, fun _ => ⟨B, 0, rfl, fun c hc => ?_⟩⟩
  obtain ⟨A', C', e, _⟩ := id (h2 c hc)
  refine ⟨A', C', ?_, ?_⟩
  · rw [Nat.zero_add, ← e]; exact h1.cell hc
  · rw [← e]; exact (h2 c hc).row
theorem LdRow.set {w wr : World} {B W k : Nat} {N : Nat → Nat} {Z : Nat → Nat → Nat} {u : Value} {n : Nat} {z : Nat → Nat} (h : LdRow w wr B W N Z) (hu : RowN w wr u n z) (hk : k < W) : LdRow w (wr.setCell ⟨B, k, none⟩ u) B W (up N k n) (up Z k z) := by
  obtain ⟨s, h1, h2⟩ := h.row
  have hB : ∃ c, wr.heap[B]? = some (.cells c /-t-/24 (0, 0)) := by
    obtain ⟨c, hc, _⟩ := h1
    exact ⟨c, hc⟩
  have off : ∀ i, i = B → w.heap.size ≤ i → ¬ ∃ c, wr.heap[i]? = some (.cells c /-t-/5 (0, 0)) := fun i e _ ⟨c, hc⟩ => by
    subst e
    obtain ⟨c2, hc2⟩ := hB
    exact cells_ne hc2 hc (by decide) rfl
  have kk : Ch (fun i => i = B) wr (wr.setCell ⟨B, k, none⟩ u) := (Ch.refl (fun i => i = B) wr).setCell (p := ⟨B, k, none⟩) (Or.inl rfl) _
  refine ⟨⟨up s k u, (h1.set k u).congr fun i _ => rfl, fun c hc => ?_⟩, h.lo⟩
  by_cases q : c = k
  · subst q
    rw [up_same, up_same, up_same]
    exact hu.ch kk off
  · rw [up_other _ _ q, up_other _ _ q, up_other _ _ q]
    exact (h2 c hc).ch kk off
theorem LdRow.congr {w wr : World} {B W : Nat} {N N' : Nat → Nat} {Z Z' : Nat → Nat → Nat} (h : LdRow w wr B W N Z) (e : ∀ c, c < W → N c = N' c ∧ Z c = Z' c) : LdRow w wr B W N' Z' := by
  obtain ⟨s, h1, h2⟩ := h.row
  exact ⟨⟨s, h1, fun c hc => by rw [← (e c hc).1, ← (e c hc).2]; exact h2 c hc⟩, h.lo⟩
/-- What of the first k is laid. -/
def toN (N : Nat → Nat) (k c : Nat) : Nat := if c < k then N c else 0
def toZ (Z : Nat → Nat → Nat) (k c : Nat) : Nat → Nat := if c < k then Z c else fun _ => 0
theorem toN_next (N : Nat → Nat) (k c : Nat) : up (toN N k) k (N k) c = toN N (k + 1) c := by
  unfold toN up
  by_cases q : c = k
  · subst q; rw [if_pos rfl, if_pos (by omega)]
  · rw [if_neg q]
    show (if c < k then _ else _) = _
    by_cases r : c < k
    · rw [if_pos r, if_pos (by omega)]
    · rw [if_neg r, if_neg (by omega)]
theorem toZ_next (Z : Nat → Nat → Nat) (k c : Nat) : up (toZ Z k) k (Z k) c = toZ Z (k + 1) c := by
  unfold toZ up
  by_cases q : c = k
  · subst q; rw [if_pos rfl, if_pos (by omega)]
  · rw [if_neg q]
    show (if c < k then _ else _) = _
    by_cases r : c < k
    · rw [if_pos r, if_pos (by omega)]
    · rw [if_neg r, if_neg (by omega)]
theorem made_bs (n : Nat) (w : World) (hn : n ≤ 1048576) : (Instr.makeSlice /-t-/37 (.int .i64 (n : Int)) (.int .i64 (n : Int))).run Tryz.prog w = .ok (.slice (some ⟨w.heap.size, 0, none⟩) n n) (w.alloc (.cells (madeCells #[.slice none 0 0] n) /-t-/24)) := by
  obtain ⟨i0, hi, hz0, hz1, hz2⟩ := info_parts info_bs
  have := run_make (P := Tryz.prog) w /-t-/37 /-t-/24 i0 (.slice none 0 0) under_bs hi hz0 .i64 .i64 n n (by omega) (by omega) (by rw [hz2]; omega) (by omega)
  rw [hz1, Int.toNat_natCast, Nat.mul_one] at this
  exact this
/-! ### load -/
def LdPost (base : Nat) (p : Ph) (g : Ge) (mir : Int) (d : Dev) (w : World) (e : Ending) (w' : World) : Prop :=
  ∃ B, e = .returned (.slice (some ⟨B, 0, none⟩) g.wal.toNat g.wal.toNat) ∧ LdRow w w' B g.wal.toNat (ldN g mir d) (ldZ g mir d) ∧ DevIs base w' p (ldD g mir d g.wal.toNat) ∧ Ch (Foot p d) w w'
/-- Between two reads. -/
structure LdS (base : Nat) (p : Ph) (g : Ge) (mir : Int) (d : Dev) (W : Nat) (w wb wr : World) (B k : Nat) : Prop where
  dev : DevIs base wr p (ldD g mir d k)
  row : LdRow w wr B W (toN (ldN g mir d) k) (toZ (ldZ g mir d) k)
  ch : Ch (Foot p d) w wr
  ch2 : Ch (fun i => Foot p d i ∨ i = B) wb wr
theorem LdS.next {base : Nat} {p : Ph} {g : Ge} {mir : Int} {d : Dev} {W : Nat} {w wb wr w1 w2 : World} {B k : Nat} {u : Value} (h : LdS base p g mir d W w wb wr B k) (hf : ∀ i, Foot p d i → i < w.heap.size) (hk : k < W) (h1 : Ch (fun _ => False) wr w1) (h2 : DevIs base w2 p (readD (ldD g mir d k) (addrR g mir (k : Int))))
    (hr : w2.ownsRow w1.heap.size /-t-/5 1 u (ldN g mir d k) (bytesL (ldN g mir d k) (ldZ g mir d k))) (hc : Ch (Foot p (ldD g mir d k)) w1 w2) : LdS base p g mir d W w wb (w2.setCell ⟨B, k, none⟩ u) B (k + 1) := by
  have hz : Bytes (ldN g mir d k) (ldZ g mir d k) := read_bytes h.dev _
  have hn : ldN g mir d k ≤ 256 := by unfold ldN readL; split <;> omega
  have hfk : ∀ i, Foot p (ldD g mir d k) i → Foot p d i := fun i hi => (foot_n (ldD_n g mir d k)).1 hi
  have hc' : Ch (Foot p d) wr w2 := (h1.mono fun _ _ f => f.elim).trans (hc.mono fun i _ hi => hfk i hi)
  have hrow := (h.row.ch hc' hf).set (k := k) (RowN.own hr (by omega) hz (Nat.le_trans h.ch.size h1.size)) hk
  refine ⟨h2.ch ((Ch.refl (fun i => i = B) w2).setCell (p := ⟨B, k, none⟩) (Or.inl rfl) _) fun i hi e => ?_, hrow.congr fun c _ => ⟨toN_next _ _ _, toZ_next _ _ _⟩, ?_, (h.ch2.trans (hc'.mono fun i _ q => Or.inl q)).setCell (p := ⟨B, k, none⟩) (Or.inl (Or.inr rfl)) _⟩
  · have := hf i ((foot_n (ldD_n g mir d (k + 1))).1 hi)
    have := h.row.lo
    omega
  · exact (h.ch.trans hc').setCell (p := ⟨B, k, none⟩) (Or.inr h.row.lo) _
set_option maxHeartbeats 3200000 in
theorem rload_any (base : Nat) (p : Ph) (g : Gn) (mir : Int) (d : Dev) (w : World) (h : DevIs base w p d) (hg : g.Ok) (hm : 0 ≤ mir ∧ mir ≤ 1) (ho : d.ops ≤ 1000000) (hW : d.W.length ≤ 1000000) :
    Calls Tryz.prog 64 #[.pointer (some ⟨p.B, 0, none⟩), .agg (geC g.ge), .int .i64 mir] w (LdPost base p g.ge mir d w) := by
  obtain ⟨w1, H, hR⟩ := geR w g.ge
  obtain ⟨x0, x1, x2, x3⟩ := hR.x
  obtain ⟨W, hWe⟩ : ∃ W, W = g.W := ⟨_, rfl⟩
  have e0 : g.ge.wal = (W : Int) := by rw [hWe]; rfl
  have hWn : g.ge.wal.toNat = W := by rw [e0]; exact Int.toNat_natCast W
  have hW2 : W ≤ 512 := by rw [hWe]; exact hg.w2
  rw [e0] at x0
  have hGM := ok_may hg
  obtain ⟨w2, hw2⟩ : ∃ w2, w2 = w1.alloc (.cells (madeCells #[.slice none 0 0] W) /-t-/24) := ⟨_, rfl⟩
  obtain ⟨B, hB⟩ : ∃ B, B = w1.heap.size := ⟨_, rfl⟩
  have hmk := made_bs W w1 (by omega)
  rw [← hw2, ← hB] at hmk
  have hc2 : Ch (fun _ => False) w1 w2 := by rw [hw2]; exact (Ch.refl _ w1).alloc _ _
  have hHB : w.heap.size ≤ H ∧ H < B := ⟨by rw [← hR.sz]; exact Nat.le_refl _, by rw [hB]; exact blk_lt hR.cx⟩
  have HS0 : Hid (LdS base p g.ge mir d W w w2 w2 B 0) := Lib.hid ⟨(h.gr hR.ch).gr hc2, ⟨⟨fun _ => .slice none 0 0, by rw [hw2, hB]; exact World.rowIs_made w1 (.slice none 0 0) W /-t-/24, fun c _ => ⟨none, 0, rfl, Nat.le_refl _, Or.inl rfl⟩⟩, by omega⟩, (hR.ch.trans hc2).mono fun _ _ f => f.elim, Ch.refl _ _⟩
  have HFT := Lib.hid (fun i (hi : Foot p d i) => (h.foot hi).2)
  have HOP := Lib.hid (And.intro ho hW)
  have HX := Lib.hid (hR.x.gr hc2)
  have HSZ := Lib.hid (show w2.heap.size = B + 1 by rw [hw2, hB]; exact Array.size_push _)
  have HR := Lib.hid hR
  have HMK := Lib.hid hmk
  have HWE := Lib.hid e0
  have HWN := Lib.hid hWn
  have HGM := Lib.hid hGM
  have HHB := Lib.hid hHB
  have HW2 := Lib.hid hW2
  have HM := Lib.hid hm
  clear h hR hWe hc2 hHB ho hW x1 x2 x3 hGM hWn e0 hg hm
  go_enter Tryz.func64, Tryz.ntmps64
  go_wp2_with (first
    | ((with_reducible refine wpList_isOp (.box 23 (.tmp 1)) rfl ?_); refine wpList_boxing _ w1 rfl 23 (.tmp 1) rfl (geC g.ge) H rfl (by exact HR.out.sz) (by exact HR.out.al) ?_)
    | fail)
  rw [← hw2, ← hB]
  clear hmk x0 hw2 hB
  go_loopw [8, 14, 15, 16, 17, 18, 19, 20, 21, 22, 23, 24, 25, 26, 27, 28, 29] (fun _ i _ _ _ _ _ _ _ _ _ _ _ _ _ _ _ wr => ∃ k : Nat, k ≤ W ∧ i = .int .i64 k ∧ Hid (LdS base p g.ge mir d W w w2 wr B k)) (fun _ i _ _ _ _ _ _ _ _ _ _ _ _ _ _ _ _ => W - (intOf i).toNat)
  case atStart => exact ⟨0, Nat.zero_le _, rfl, HS0⟩
  case round =>
    obtain ⟨k, hk, rfl, HK⟩ := hrel
    clear HS0
    by_cases hlt : k < W
    · have i1 : (0 : Int) ≤ (k : Int) := Int.natCast_nonneg _
      have i2 : (k : Int) < (W : Int) := by omega
      obtain ⟨x0, x1, x2, x3⟩ := HX.out.off HK.out.ch2 (fun q => q.elim (fun q => by have := HFT.out H q; have := HHB.out; omega) (fun q => by have := HHB.out; omega))
      have HA := Lib.hid (raddr_any g.ge mir (k : Int) wr HGM.out HM.out ⟨by omega, by rw [HWE.out]; omega⟩)
      have HLT := Lib.hid hlt
      clear hlt
      go_wp2_with fail
      refine HA.out.mono ?_
      rintro e w4 ⟨rfl, hc4⟩
      have HC4 := Lib.hid hc4
      have HO := Lib.hid (read_any base p (ldD g.ge mir d k) (addrR g.ge mir (k : Int)) w4 (HK.out.dev.gr hc4) (by have := ldD_ops g.ge mir d k; have := HOP.out.1; have := HLT.out; omega) (by rw [ldD_W]; have := HOP.out.2; omega))
      clear hc4 HA x0 x1 x2 x3
      go_wp2_with fail
      refine HO.out.mono ?_
      rintro e w5 ⟨u, rfl, q1, q2, q3⟩
      obtain ⟨A5, C5, rfl⟩ := own_slice q2
      have HNX := Lib.hid (HK.out.next HFT.out HLT.out HC4.out q1 q2 q3)
      have hf : ∀ i, Foot p (ldD g.ge mir d k) i → i < w.heap.size := fun i hi => HFT.out i ((foot_n (ldD_n g.ge mir d k)).1 hi)
      obtain ⟨s, hs1, hs2⟩ := ((HK.out.row.ch (HC4.out.mono fun _ _ f => f.elim) (S := Foot p (ldD g.ge mir d k)) hf).ch q3 hf).row
      have c1 := hs1.cell (i := k) HLT.out
      have f1 := hs1.frozen k
      have hlt := HLT.out
      obtain ⟨E, hE⟩ : ∃ E, E = readE (ldD g.ge mir d k) (addrR g.ge mir (k : Int)) := ⟨_, rfl⟩
      obtain ⟨M, hM⟩ : ∃ M, M = readL (ldD g.ge mir d k) (addrR g.ge mir (k : Int)) := ⟨_, rfl⟩
      rw [← hE, ← hM]
      rw [← hM] at HNX
      clear q1 q2 q3 hs1 hs2 hE HO hf hM
      go_wp2
      go_roundw
      case rel => exact ⟨k + 1, HLT.out, by go_num, HNX⟩
      case measure => have := HLT.out; simp [intOf]; omega
    · obtain rfl : k = W := by omega
      have HFIN : Hid (LdPost base p g.ge mir d w (.returned (.slice (some ⟨B, 0, none⟩) k k)) wr) := Lib.hid (by
        unfold LdPost
        rw [HWN.out]
        exact ⟨B, rfl, HK.out.row.congr fun c hc => by unfold toN toZ; rw [if_pos hc, if_pos hc]; exact ⟨rfl, rfl⟩, HK.out.dev, HK.out.ch⟩)
      clear hlt hk
      go_wp2
      go_ret
      exact HFIN.out
#print axioms rload_any
end Go.Proofs.YteleknojohnlbaaGreat
