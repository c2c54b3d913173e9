/-
  (*disk.Disk).Flush, Crash, settle, walked.
-/
import Derived.Test.YtjdknebifcdicaaMg6
import Derived.Deep.WholeRow
namespace Go.Proofs.Ytjdknebifcdicaa
open Go.RowKit
set_option linter.unusedVariables false
set_option maxRecDepth 100000

/-! ### what waits is done -/
def finAll (d : Dev) (L : List Wt) : Dev := L.foldl finD d
theorem finAll_n (L : List Wt) : ∀ d : Dev, (finAll d L).n = d.n := by
  induction L with
  | nil => exact fun _ => rfl
  | cons x r ih => exact fun d => ih (finD d x)
theorem finAll_W (L : List Wt) : ∀ d : Dev, (finAll d L).W = d.W := by
  induction L with
  | nil => exact fun _ => rfl
  | cons x r ih => exact fun d => ih (finD d x)
theorem finAll_snoc (d : Dev) (L : List Wt) (x : Wt) : finAll d (L ++ [x]) = finD (finAll d L) x := by unfold finAll; rw [List.foldl_append]; rfl
theorem take_snoc {W : List Wt} {k : Nat} {x : Wt} (h : W[k]? = some x) : W.take (k + 1) = W.take k ++ [x] := by rw [List.take_add_one, h]; rfl
/-- A write that waits is laid into a variable of its own. -/
structure WtR (wr wz wx : World) (H g k : Nat) (x : Wt) : Prop where
  ld : (loadVar 87 ⟨g, k * 257, none⟩).run Try.prog wr = .ok (.agg (wtC x).toArray) wr
  al : wr.alloc (.cells (wtC ⟨0, fun _ => 0⟩).toArray 87) = wz
  sz : wr.heap.size = H
  st : (storeVar 87 ⟨H, 0, none⟩ (.agg (wtC x).toArray)).run Try.prog wz = .ok () wx
  l2 : (loadVar 87 ⟨H, 0, none⟩).run Try.prog wx = .ok (.agg (wtC x).toArray) wx
  cx : wx.heap[H]? = some (.cells (wtC x).toArray 87 (0, 0))
  ch : Ch (fun _ => False) wr wx
theorem wtR {base : Nat} {wr : World} {p : Ph} {d : Dev} (h : DevIs base wr p d) {k : Nat} {x : Wt} (hk : d.W[k]? = some x) : ∃ wz wx H g cap, p.V = .slice (some ⟨g, 0, none⟩) d.W.length cap ∧ WtR wr wz wx H g k x := by
  obtain ⟨g, cap, hv, hr⟩ := h.wt hk
  refine ⟨_, wr.alloc (.cells (wtC x).toArray 87), wr.heap.size, g, cap, hv, ?_, rfl, rfl, ?_, ?_, heap_alloc_new _ _, (Ch.refl _ wr).alloc _ _⟩
  · obtain ⟨dsc, hd, hr2⟩ := under_wt
    exact run_loadVar_mid wr g (k * 257) _ (wtC x) dsc hr hd hr2 (info_wt x)
  · exact run_storeVar_new (P := Try.prog) wr _ _ _ (by rw [List.size_toArray]; exact info_wt x) (by rw [wtC_arr, wtC_arr]) (all_oneCell_toArray (wtC_one x))
  · obtain ⟨dsc, hd, hr2⟩ := under_wt
    exact run_loadVar_mid _ _ 0 _ (wtC x) dsc (fun j v hj => by rw [Nat.zero_add, alloc_cell, List.getElem?_toArray]; exact hj) hd hr2 (info_wt x)
theorem nilW {base : Nat} {w : World} {p : Ph} {d : Dev} (h : DevIs base w p d) : DevIs base (w.setCell ⟨p.B, 1, none⟩ (.slice none 0 0)) { p with V := .slice none 0 0 } { d with W := [] } :=
  h.turnW (Ch.setCell (S := fun i => i = p.B ∨ p.V.ownBlock = some i) (Ch.refl _ w) (p := ⟨p.B, 1, none⟩) (Or.inl (Or.inl rfl)) _) (blk_set h.blk _) (World.ownsRow_nil _ _ _ _) (fun x hx => by cases hx)
theorem nilW_post {base : Nat} {w0 w : World} {p : Ph} {d0 d : Dev} {r : Value} (h : DevIs base w p d) (hn : d.n = d0.n) (k : Ch (Foot p d0) w0 w) : DPost base p d0 { d with W := [] } r w0 (.returned r) (w.setCell ⟨p.B, 1, none⟩ (.slice none 0 0)) :=
  ⟨rfl, { p with V := .slice none 0 0 }, rfl, nilW h, fun i hi => Or.inl ((foot_n hn).1 (by
    rcases hi with hi | hi | hi | hi
    · exact Or.inl hi
    · exact Or.inr (Or.inl hi)
    · cases hi
    · exact Or.inr (Or.inr (Or.inr hi)))), k.setCell (p := ⟨p.B, 1, none⟩) (Or.inl (Or.inl rfl)) _⟩
def flushE (d : Dev) : Int := if d.dead || diesB d then 21 else 0
def flushD (d : Dev) : Dev := if d.dead then d else if diesB d then diesD d else { finAll (diesD d) d.W with W := [] }
theorem diesD_W (d : Dev) : (diesD d).W = d.W ∧ (diesD d).n = d.n := by
  unfold diesD
  split
  · split <;> exact ⟨rfl, rfl⟩
  · exact ⟨rfl, rfl⟩
set_option maxHeartbeats 400000 in
theorem flush_nil (w : World) : Calls Try.prog 93 #[.pointer none] w fun e w' => e = .returned (.int .i64 21) ∧ w = w' := by
  go_enter Try.func93, Try.ntmps93
  go_wp2_with fail
  refine (dead_nil _).mono ?_
  rintro e w1 ⟨rfl, rfl⟩
  go_wp2
  go_ret
  exact ⟨rfl, rfl⟩
set_option maxHeartbeats 800000 in
set_option maxRecDepth 100000 in
theorem flush_any (base : Nat) (p : Ph) (d : Dev) (w : World) (h : DevIs base w p d) (hW : d.W.length ≤ 1048576) :
    Calls Try.prog 93 #[.pointer (some ⟨p.B, 0, none⟩)] w (DPost base p d (flushD d) (.int .i64 (flushE d)) w) := by
  have HD := Lib.hid (dead_any base p d w h)
  have HY := Lib.hid (dies_any base p d w h)
  cases hd : d.dead
  · rw [hd] at HD
    cases hy : diesB d
    · have HS := Lib.hid (show flushE d = 0 ∧ flushD d = { finAll (diesD d) (diesD d).W with W := [] } by unfold flushE flushD; rw [hd, hy, (diesD_W d).1]; exact ⟨rfl, rfl⟩)
      rw [hy] at HY
      rw [HS.out.1, HS.out.2]
      have hWL : (diesD d).W.length = d.W.length := by rw [(diesD_W d).1]
      have HN := Lib.hid (diesD_W d).2
      clear h hd hy HS
      obtain ⟨d1, hd1⟩ : ∃ d1, d1 = diesD d := ⟨_, rfl⟩
      rw [← hd1] at HY HN hWL ⊢
      rw [← hWL] at hW
      clear hWL hd1
      go_enter Try.func93, Try.ntmps93
      go_wp2_with fail
      refine HD.out.mono ?_
      rintro e w' ⟨rfl, rfl⟩
      go_wp2_with fail
      refine HY.out.mono ?_
      rintro e w1 ⟨rfl, h1, hc1⟩
      obtain ⟨A, C, hv⟩ := h1.vform
      have c1 : w1.cell? ⟨p.B, 1, none⟩ = some p.V := h1.cellB 1
      rw [hv] at c1
      obtain ⟨L, hL⟩ : ∃ L, L = d1.W.length := ⟨_, rfl⟩
      rw [← hL] at c1 hv hW
      have HV := Lib.hid hv
      have HL := Lib.hid hL
      have H1 := Lib.hid h1
      have HC1 := Lib.hid (show Ch (Foot p d) w w1 from hc1)
      obtain ⟨B, G, V, m, cG⟩ := p
      clear h1 hc1 hv hL HD HY
      go_wp2_with fail
      go_loopw [16] (fun i wr => ∃ k : Nat, k ≤ L ∧ i = .int .i64 k ∧ Hid (DevIs base wr ⟨B, G, V, m, cG⟩ (finAll d1 (d1.W.take k)) ∧ Ch (Foot ⟨B, G, V, m, cG⟩ d) w wr)) (fun i _ => L - (intOf i).toNat)
      case atStart => exact ⟨0, Nat.zero_le _, rfl, Lib.hid ⟨H1.out, HC1.out⟩⟩
      case round =>
        obtain ⟨k, hk, rfl, HK⟩ := hrel
        by_cases hlt : k < L
        · obtain ⟨x, hx⟩ : ∃ x, d1.W[k]? = some x := ⟨_, List.getElem?_eq_getElem (by rw [← HL.out]; exact hlt)⟩
          obtain ⟨wz, wx, H, g, cap, hv, hR⟩ := wtR HK.out.1 (k := k) (x := x) (by rw [finAll_W]; exact hx)
          rw [finAll_W, ← HL.out] at hv
          have hv2 := HV.out.symm.trans hv
          injection hv2 with q1 q2 q3
          subst q1
          subst q3
          have HR := Lib.hid hR
          have HX := Lib.hid hx
          have hxk := H1.out.wok x (List.mem_of_getElem? hx)
          have hdx : DevIs base wx ⟨B, G, V, m, cG⟩ (finAll d1 (d1.W.take k)) := HK.out.1.gr hR.ch
          have HF := Lib.hid (finish_any base _ _ x wx hdx (by rw [finAll_n]; exact hxk.1) hxk.2)
          have i1 : (0 : Int) ≤ (k : Int) := Int.natCast_nonneg _
          have i2 : (k : Int) < (L : Int) := by omega
          clear hv q2 hR hx hxk hdx
          go_wp2_with (first
            | ((with_reducible refine wpList_same ?_); first
            | refine wpList_loading _ rfl 87 (.tmp 18) rfl (.agg (wtC x).toArray) ⟨g, k * 257, none⟩ rfl (by exact HR.out.ld) ?_
            | refine wpList_making _ wz rfl 87 rfl (wtC ⟨0, fun _ => 0⟩).toArray H (by exact zero_write _) (by exact HR.out.sz) (by exact HR.out.al) ?_
            | refine wpList_storing _ wx rfl 87 (.tmp 4) (.tmp 19) rfl (.agg (wtC x).toArray) ⟨H, 0, none⟩ rfl rfl (by exact HR.out.st) ?_
            | refine wpList_loading _ rfl 87 (.tmp 4) rfl (.agg (wtC x).toArray) ⟨H, 0, none⟩ rfl (by exact HR.out.l2) ?_)
            | (go_at_call 43; refine HF.out.mono ?_; rintro e w2 ⟨rfl, h2, hc2⟩))
          have HK2 := Lib.hid (show DevIs base w2 ⟨B, G, V, m, cG⟩ (finAll d1 (d1.W.take (k + 1))) by rw [take_snoc HX.out, finAll_snoc]; exact h2)
          have HC2 := Lib.hid (show Ch (Foot ⟨B, G, V, m, cG⟩ d) w w2 from (HK.out.2.trans (HR.out.ch.mono fun _ _ f => f.elim)).trans (hc2.mono fun i _ hi => (foot_n (by rw [finAll_n, HN.out])).1 hi))
          clear h2 hc2
          go_wp2
          go_roundw
          case rel => exact ⟨k + 1, by omega, by go_num, Lib.hid ⟨HK2.out, HC2.out⟩⟩
          case measure => simp [intOf]; omega
        · obtain rfl : k = L := by omega
          have f1 := HK.out.1.frB 1
          have c3 : wr.cell? ⟨B, 1, none⟩ = some V := HK.out.1.cellB 1
          have HP := Lib.hid (nilW_post (r := .int .i64 0) HK.out.1 (by rw [finAll_n, HN.out]) HK.out.2)
          rw [HL.out, List.take_length] at HP
          go_wp2
          go_ret
          exact HP.out
    · have HS := Lib.hid (show flushE d = 21 ∧ flushD d = diesD d by unfold flushE flushD; rw [hd, hy]; exact ⟨rfl, rfl⟩)
      rw [hy] at HY
      rw [HS.out.1, HS.out.2]
      clear h hd hy
      go_enter Try.func93, Try.ntmps93
      go_wp2_with fail
      refine HD.out.mono ?_
      rintro e w' ⟨rfl, rfl⟩
      go_wp2_with fail
      refine HY.out.mono ?_
      rintro e w1 ⟨rfl, h1, hc1⟩
      have HP := Lib.hid (DPost.turned (base := base) (r := .int .i64 21) h1 (diesD_W d).2 hc1)
      clear h1 hc1
      go_wp2
      go_ret
      exact HP.out
  · rw [hd] at HD
    have HS := Lib.hid (show flushE d = 21 ∧ flushD d = d by unfold flushE flushD; rw [hd]; exact ⟨rfl, rfl⟩)
    have HP := Lib.hid (DPost.turned (base := base) (r := .int .i64 21) h rfl (Ch.refl _ w))
    rw [HS.out.1, HS.out.2]
    clear h hd
    go_enter Try.func93, Try.ntmps93
    go_wp2_with fail
    refine HD.out.mono ?_
    rintro e w' ⟨rfl, rfl⟩
    go_wp2
    go_ret
    exact HP.out
#print axioms flush_any

/-! ### Crash -/
def RowQ (w : World) (v : Value) (m : Nat) (q : Nat → Bool) : Prop :=
  ∃ (A : Option Addr) (C : Nat), v = .slice A m C ∧ m ≤ 9223372036854775807 ∧ (0 < m → ∃ b o, A = some ⟨b, o, none⟩ ∧ ∀ c, c < m → w.cell? ⟨b, o + c, none⟩ = some (.bool (q c)))
theorem RowQ.at {w : World} {A : Option Addr} {m C : Nat} {q : Nat → Bool} (h : RowQ w (.slice A m C) m q) (hm : 0 < m) : ∃ b o, A = some ⟨b, o, none⟩ ∧ ∀ c, c < m → w.cell? ⟨b, o + c, none⟩ = some (.bool (q c)) := by
  obtain ⟨_, _, e, _, h3⟩ := h
  injection e with e _ _
  subst e
  exact h3 hm
def keepB (m : Nat) (q : Nat → Bool) (i : Nat) : Bool := decide (0 < m) && q (i % m)
/-- The first k of what waits, done as far as they are kept. -/
def crTo (d : Dev) (m : Nat) (q : Nat → Bool) : Nat → Dev
  | 0 => d
  | k + 1 => match d.W[k]? with
    | some x => if keepB m q k then finD (crTo d m q k) x else crTo d m q k
    | none => crTo d m q k
theorem crTo_nW (d : Dev) (m : Nat) (q : Nat → Bool) : ∀ k, (crTo d m q k).n = d.n ∧ (crTo d m q k).W = d.W
  | 0 => ⟨rfl, rfl⟩
  | k + 1 => by
    unfold crTo
    cases h : d.W[k]? with
    | none => exact crTo_nW d m q k
    | some x =>
      dsimp only
      split
      · exact crTo_nW d m q k
      · exact crTo_nW d m q k
def crashD (d : Dev) (m : Nat) (q : Nat → Bool) : Dev := { crTo d m q d.W.length with W := [], dead := false, armed := false }
set_option maxHeartbeats 400000 in
theorem crash_nil (v : Value) (w : World) : Calls Try.prog 23 #[.pointer none, v] w fun e w' => e = .returned (.tuple #[]) ∧ w = w' := by
  go_enter Try.func23, Try.ntmps23
  go_wp2
  refine bodyPost_ret (results_none rfl _ _ _) rfl ?_
  exact ⟨rfl, rfl⟩
theorem crash_done {base : Nat} {w0 w : World} {p : Ph} {d0 d : Dev} {r : Value} (h : DevIs base w p d) (hn : d.n = d0.n) (k : Ch (Foot p d0) w0 w) :
    DPost base p d0 { d with W := [], dead := false, armed := false } r w0 (.returned r) (((w.setCell ⟨p.B, 1, none⟩ (.slice none 0 0)).setCell ⟨p.B, 2, none⟩ (.bool false)).setCell ⟨p.B, 3, none⟩ (.bool false)) := by
  obtain ⟨_, p', hp, h1, h2, h3⟩ := nilW_post (r := r) h hn k
  have k2 : Ch (Foot p d0) (w.setCell ⟨p.B, 1, none⟩ (.slice none 0 0)) (((w.setCell ⟨p.B, 1, none⟩ (.slice none 0 0)).setCell ⟨p.B, 2, none⟩ (.bool false)).setCell ⟨p.B, 3, none⟩ (.bool false)) :=
    ((Ch.refl _ _).setCell (p := ⟨p.B, 2, none⟩) (Or.inl (Or.inl rfl)) _).setCell (p := ⟨p.B, 3, none⟩) (Or.inl (Or.inl rfl)) _
  refine ⟨rfl, p', hp, ?_, h2, h3.trans k2⟩
  have := (h1.setDead false).setArmed false
  rw [hp] at this
  exact this
set_option maxHeartbeats 800000 in
set_option maxRecDepth 100000 in
theorem crash_any (base : Nat) (p : Ph) (d : Dev) (A : Option Addr) (n C : Nat) (q : Nat → Bool) (w : World) (h : DevIs base w p d) (hW : d.W.length ≤ 1048576) (hk : RowQ w (.slice A n C) n q) (hkf : ∀ b o, A = some ⟨b, o, none⟩ → 0 < n → ¬ Foot p d b) :
    Calls Try.prog 23 #[.pointer (some ⟨p.B, 0, none⟩), .slice A n C] w (DPost base p d (crashD d n q) (.tuple #[]) w) := by
  obtain ⟨A1, C1, hv⟩ := h.vform
  have c1 : w.cell? ⟨p.B, 1, none⟩ = some p.V := h.cellB 1
  rw [hv] at c1
  obtain ⟨L, hL⟩ : ∃ L, L = d.W.length := ⟨_, rfl⟩
  rw [← hL] at c1 hv hW
  have HV := Lib.hid hv
  have HL := Lib.hid hL
  have H0 := Lib.hid h
  have HKQ := Lib.hid hk
  have HKF := Lib.hid hkf
  have hn63 : n ≤ 9223372036854775807 := by obtain ⟨_, _, e, h1, _⟩ := hk; exact h1
  obtain ⟨B, G, V, m, cG⟩ := p
  clear h hv hL hk hkf
  go_enter Try.func23, Try.ntmps23
  go_wp2_with fail
  go_loopw [4, 5, 13] (fun _ _ i wr => ∃ k : Nat, k ≤ L ∧ i = .int .i64 k ∧ Hid (DevIs base wr ⟨B, G, V, m, cG⟩ (crTo d n q k) ∧ Ch (Foot ⟨B, G, V, m, cG⟩ d) w wr)) (fun _ _ i _ => L - (intOf i).toNat)
  case atStart => exact ⟨0, Nat.zero_le _, rfl, Lib.hid ⟨H0.out, Ch.refl _ _⟩⟩
  case round =>
    obtain ⟨k, hk, rfl, HK⟩ := hrel
    by_cases hlt : k < L
    · obtain ⟨x, hx⟩ : ∃ x, d.W[k]? = some x := ⟨_, List.getElem?_eq_getElem (by rw [← HL.out]; exact hlt)⟩
      obtain ⟨wz, wx, H, g, cap, hv, hR⟩ := wtR HK.out.1 (k := k) (x := x) (by rw [(crTo_nW d n q k).2]; exact hx)
      rw [(crTo_nW d n q k).2, ← HL.out] at hv
      have hv2 := HV.out.symm.trans hv
      injection hv2 with q1 q2 q3
      subst q1
      subst q3
      have HR := Lib.hid hR
      have HX := Lib.hid hx
      have hxk := H0.out.wok x (List.mem_of_getElem? hx)
      have hdx : DevIs base wx ⟨B, G, V, m, cG⟩ (crTo d n q k) := HK.out.1.gr hR.ch
      have hchx : Ch (Foot ⟨B, G, V, m, cG⟩ d) w wx := HK.out.2.trans (hR.ch.mono fun _ _ f => f.elim)
      have HDX := Lib.hid hdx
      have HCX := Lib.hid hchx
      have HF := Lib.hid (finish_any base _ _ x wx hdx (by rw [(crTo_nW d n q k).1]; exact hxk.1) hxk.2)
      have i1 : (0 : Int) ≤ (k : Int) := Int.natCast_nonneg _
      have i2 : (k : Int) < (L : Int) := by omega
      have hcr : crTo d n q (k + 1) = if keepB n q k then finD (crTo d n q k) x else crTo d n q k := by
        conv => lhs; unfold crTo
        rw [hx]
      have HCR := Lib.hid hcr
      by_cases hn : 0 < n
      · obtain ⟨b, o, hA, hcell⟩ := HKQ.out.at hn
        subst hA
        have hmod : k % n < n := Nat.mod_lt _ hn
        have hc := hcell (k % n) hmod
        have cq : wx.cell? ⟨b, o + k % n, none⟩ = some (.bool (q (k % n))) := (World.cell?_of_block (hchx.block b (World.block_lt_of_cell? _ _ hc) (HKF.out b o rfl hn))).trans hc
        have j1 : (0 : Int) < (n : Int) := by omega
        have j3 : (k : Int) % (n : Int) = ((k % n : Nat) : Int) := by omega
        have j4 : (0 : Int) ≤ ((k % n : Nat) : Int) := Int.natCast_nonneg _
        have j5 : ((k % n : Nat) : Int) < (n : Int) := by omega
        have j6 : Int.tmod (k : Int) (n : Int) = ((k % n : Nat) : Int) := by rw [Int.tmod_eq_emod_of_nonneg i1]; omega
        have hkb : keepB n q k = q (k % n) := by unfold keepB; rw [decide_eq_true hn]; rfl
        rw [hkb] at hcr
        obtain ⟨r, hr⟩ : ∃ r, r = k % n := ⟨_, rfl⟩
        rw [← hr] at cq j3 j4 j5 j6 hcr
        clear hmod hc hkb hr hcell HCR hn
        cases hqr : q r
        · rw [hqr] at cq hcr
          have HCR := Lib.hid hcr
          clear hv q2 hR hx hxk hdx hchx hcr hqr HF
          go_wp2_with ((with_reducible refine wpList_same ?_); first
            | refine wpList_loading _ rfl 87 (.tmp 16) rfl (.agg (wtC x).toArray) ⟨g, k * 257, none⟩ rfl (by exact HR.out.ld) ?_
            | refine wpList_making _ wz rfl 87 rfl (wtC ⟨0, fun _ => 0⟩).toArray H (by exact zero_write _) (by exact HR.out.sz) (by exact HR.out.al) ?_
            | refine wpList_storing _ wx rfl 87 (.tmp 5) (.tmp 17) rfl (.agg (wtC x).toArray) ⟨H, 0, none⟩ rfl rfl (by exact HR.out.st) ?_)
          go_roundw
          case rel => exact ⟨k + 1, by omega, by go_num, Lib.hid ⟨by rw [HCR.out]; exact HDX.out, HCX.out⟩⟩
          case measure => simp [intOf]; omega
        · rw [hqr] at cq hcr
          have HCR := Lib.hid hcr
          clear hv q2 hR hx hxk hdx hchx hcr hqr
          go_wp2_with (first
            | ((with_reducible refine wpList_same ?_); first
              | refine wpList_loading _ rfl 87 (.tmp 16) rfl (.agg (wtC x).toArray) ⟨g, k * 257, none⟩ rfl (by exact HR.out.ld) ?_
              | refine wpList_making _ wz rfl 87 rfl (wtC ⟨0, fun _ => 0⟩).toArray H (by exact zero_write _) (by exact HR.out.sz) (by exact HR.out.al) ?_
              | refine wpList_storing _ wx rfl 87 (.tmp 5) (.tmp 17) rfl (.agg (wtC x).toArray) ⟨H, 0, none⟩ rfl rfl (by exact HR.out.st) ?_
              | refine wpList_loading _ rfl 87 (.tmp 5) rfl (.agg (wtC x).toArray) ⟨H, 0, none⟩ rfl (by exact HR.out.l2) ?_)
            | (go_at_call 43; refine HF.out.mono ?_; rintro e w2 ⟨rfl, h2, hc2⟩))
          have HK2 := Lib.hid h2
          have HC2 := Lib.hid (show Ch (Foot ⟨B, G, V, m, cG⟩ d) w w2 from HCX.out.trans (hc2.mono fun i _ hi => (foot_n (crTo_nW d n q k).1).1 hi))
          clear h2 hc2
          go_wp2
          go_roundw
          case rel => exact ⟨k + 1, by omega, by go_num, Lib.hid ⟨by rw [HCR.out]; exact HK2.out, HC2.out⟩⟩
          case measure => simp [intOf]; omega
      · obtain rfl : n = 0 := by omega
        have HCR2 := Lib.hid (show crTo d 0 q (k + 1) = crTo d 0 q k by rw [hcr]; rfl)
        clear hv q2 hR hx hxk hdx hchx hcr HF hn
        go_wp2_with ((with_reducible refine wpList_same ?_); first
          | refine wpList_loading _ rfl 87 (.tmp 16) rfl (.agg (wtC x).toArray) ⟨g, k * 257, none⟩ rfl (by exact HR.out.ld) ?_
          | refine wpList_making _ wz rfl 87 rfl (wtC ⟨0, fun _ => 0⟩).toArray H (by exact zero_write _) (by exact HR.out.sz) (by exact HR.out.al) ?_
          | refine wpList_storing _ wx rfl 87 (.tmp 5) (.tmp 17) rfl (.agg (wtC x).toArray) ⟨H, 0, none⟩ rfl rfl (by exact HR.out.st) ?_)
        go_roundw
        case rel => exact ⟨k + 1, by omega, by go_num, Lib.hid ⟨by rw [HCR2.out]; exact HDX.out, HCX.out⟩⟩
        case measure => simp [intOf]; omega
    · obtain rfl : k = L := by omega
      have f1 := HK.out.1.frB 1
      have f2 := HK.out.1.frB 2
      have f3 := HK.out.1.frB 3
      have c2 : wr.cell? ⟨B, 1, none⟩ = some V := HK.out.1.cellB 1
      have c3 : wr.cell? ⟨B, 2, none⟩ = some (.bool (crTo d n q k).dead) := HK.out.1.cellB 2
      have c4 : wr.cell? ⟨B, 3, none⟩ = some (.bool (crTo d n q k).armed) := HK.out.1.cellB 3
      have hp := crash_done (r := .tuple #[]) HK.out.1 (crTo_nW d n q k).1 HK.out.2
      rw [show ({ crTo d n q k with W := [], dead := false, armed := false } : Dev) = crashD d n q by unfold crashD; rw [← HL.out]] at hp
      have HP := Lib.hid hp
      clear hp
      go_wp2
      go_end0
      exact HP.out
#print axioms crash_any
end Go.Proofs.Ytjdknebifcdicaa
