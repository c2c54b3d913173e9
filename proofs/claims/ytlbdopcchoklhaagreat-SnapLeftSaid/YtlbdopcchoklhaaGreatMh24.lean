/-
  (*disk.Disk).Flush, Crash, settle, walked. (*disk.Disk).settle, walked. (*disk.Disk).drop, lose, blank, faults, walked.
-/
import Derived.Test.YtlbdopcchoklhaaGreatMh22
import Derived.Deep.WholeRow
namespace Go.Proofs.YtlbdopcchoklhaaGreat
open Go.RowKit
set_option linter.unusedVariables false
set_option maxRecDepth 100000

/-! ### what waits is done -/
def finAll (d : Dev) (L : List Wt) : Dev := L.foldl finD d
theorem finAll_n (L : List Wt) : ∀ d : Dev, (finAll d L).n = d.n := by
  induction L with
  | nil => exact fun _ => rfl
  | cons x r ih => exact fun d => ih (finD d x)
theorem finAll_W (L : List Wt) : ∀ d : Dev, (finAll d L).W = d.W := by
  induction L with
  | nil => exact fun _ => rfl
  | cons x r ih => exact fun d => ih (finD d x)
theorem finAll_snoc (d : Dev) (L : List Wt) (x : Wt) : finAll d (L ++ [x]) = finD (finAll d L) x := by unfold finAll; rw [List.foldl_append]; rfl
theorem take_snoc {W : List Wt} {k : Nat} {x : Wt} (h : W[k]? = some x) : W.take (k + 1) = W.take k ++ [x] := by rw [List.take_add_one, h]; rfl
/-- A write that waits is laid into a variable of its own. -/
structure WtR (wr wz wx : World) (H g k : Nat) (x : Wt) : Prop where
  ld : (loadVar 95 ⟨g, k * 257, none⟩).run Tryz.prog wr = .ok (.agg (wtC x).toArray) wr
  al : wr.alloc (.cells (wtC ⟨0, fun _ => 0⟩).toArray 95) = wz
  sz : wr.heap.size = H
  st : (storeVar 95 ⟨H, 0, none⟩ (.agg (wtC x).toArray)).run Tryz.prog wz = .ok () wx
  l2 : (loadVar 95 ⟨H, 0, none⟩).run Tryz.prog wx = .ok (.agg (wtC x).toArray) wx
  cx : wx.heap[H]? = some (.cells (wtC x).toArray 95 (0, 0))
  ch : Ch (fun _ => False) wr wx
theorem wtR {base : Nat} {wr : World} {p : Ph} {d : Dev} (h : DevIs base wr p d) {k : Nat} {x : Wt} (hk : d.W[k]? = some x) : ∃ wz wx H g cap, p.V = .slice (some ⟨g, 0, none⟩) d.W.length cap ∧ WtR wr wz wx H g k x := by
  obtain ⟨g, cap, hv, hr⟩ := h.wt hk
  refine ⟨_, wr.alloc (.cells (wtC x).toArray 95), wr.heap.size, g, cap, hv, ?_, rfl, rfl, ?_, ?_, heap_alloc_new _ _, (Ch.refl _ wr).alloc _ _⟩
  · obtain ⟨dsc, hd, hr2⟩ := under_wt
    exact run_loadVar_mid wr g (k * 257) _ (wtC x) dsc hr hd hr2 (info_wt x)
  · exact run_storeVar_new (P := Tryz.prog) wr _ _ _ (by rw [List.size_toArray]; exact info_wt x) (by rw [wtC_arr, wtC_arr]) (all_oneCell_toArray (wtC_one x))
  · obtain ⟨dsc, hd, hr2⟩ := under_wt
    exact run_loadVar_mid _ _ 0 _ (wtC x) dsc (fun j v hj => by rw [Nat.zero_add, alloc_cell, List.getElem?_toArray]; exact hj) hd hr2 (info_wt x)
theorem nilW {base : Nat} {w : World} {p : Ph} {d : Dev} (h : DevIs base w p d) : DevIs base (w.setCell ⟨p.B, 1, none⟩ (.slice none 0 0)) { p with V := .slice none 0 0 } { d with W := [] } :=
  h.turnW (Ch.setCell (S := fun i => i = p.B ∨ p.V.ownBlock = some i) (Ch.refl _ w) (p := ⟨p.B, 1, none⟩) (Or.inl (Or.inl rfl)) _) (blk_set h.blk _) (World.ownsRow_nil _ _ _ _) (fun x hx => by cases hx)
theorem nilW_post {base : Nat} {w0 w : World} {p : Ph} {d0 d : Dev} {r : Value} (h : DevIs base w p d) (hn : d.n = d0.n) (k : Ch (Foot p d0) w0 w) : DPost base p d0 { d with W := [] } r w0 (.returned r) (w.setCell ⟨p.B, 1, none⟩ (.slice none 0 0)) :=
  ⟨rfl, { p with V := .slice none 0 0 }, rfl, nilW h, fun i hi => Or.inl ((foot_n hn).1 (by
    rcases hi with hi | hi | hi | hi
    · exact Or.inl hi
    · exact Or.inr (Or.inl hi)
    · cases hi
    · exact Or.inr (Or.inr (Or.inr hi)))), k.setCell (p := ⟨p.B, 1, none⟩) (Or.inl (Or.inl rfl)) _⟩
def flushE (d : Dev) : Int := if d.dead || diesB d then 21 else 0
def flushD (d : Dev) : Dev := if d.dead then d else if diesB d then diesD d else { finAll (diesD d) d.W with W := [] }
theorem diesD_W (d : Dev) : (diesD d).W = d.W ∧ (diesD d).n = d.n := by
  unfold diesD
  split
  · split <;> exact ⟨rfl, rfl⟩
  · exact ⟨rfl, rfl⟩
set_option maxHeartbeats 800000 in
set_option maxRecDepth 100000 in
theorem flush_any (base : Nat) (p : Ph) (d : Dev) (w : World) (h : DevIs base w p d) (hW : d.W.length ≤ 1048576) :
    Calls Tryz.prog 48 #[.pointer (some ⟨p.B, 0, none⟩)] w (DPost base p d (flushD d) (.int .i64 (flushE d)) w) := by
  have HD := Lib.hid (dead_any base p d w h)
  have HY := Lib.hid (dies_any base p d w h)
  cases hd : d.dead
  · rw [hd] at HD
    cases hy : diesB d
    · have HS := Lib.hid (show flushE d = 0 ∧ flushD d = { finAll (diesD d) (diesD d).W with W := [] } by unfold flushE flushD; rw [hd, hy, (diesD_W d).1]; exact ⟨rfl, rfl⟩)
      rw [hy] at HY
      rw [HS.out.1, HS.out.2]
      have hWL : (diesD d).W.length = d.W.length := by rw [(diesD_W d).1]
      have HN := Lib.hid (diesD_W d).2
      clear h hd hy HS
      obtain ⟨d1, hd1⟩ : ∃ d1, d1 = diesD d := ⟨_, rfl⟩
      rw [← hd1] at HY HN hWL ⊢
      rw [← hWL] at hW
      clear hWL hd1
      go_enter Tryz.func48, Tryz.ntmps48
      go_wp2_with fail
      refine HD.out.mono ?_
      rintro e w' ⟨rfl, rfl⟩
      go_wp2_with fail
      refine HY.out.mono ?_
      rintro e w1 ⟨rfl, h1, hc1⟩
      obtain ⟨A, C, hv⟩ := h1.vform
      have c1 : w1.cell? ⟨p.B, 1, none⟩ = some p.V := h1.cellB 1
      rw [hv] at c1
      obtain ⟨L, hL⟩ : ∃ L, L = d1.W.length := ⟨_, rfl⟩
      rw [← hL] at c1 hv hW
      have HV := Lib.hid hv
      have HL := Lib.hid hL
      have H1 := Lib.hid h1
      have HC1 := Lib.hid (show Ch (Foot p d) w w1 from hc1)
      obtain ⟨B, G, V, m, cG⟩ := p
      clear h1 hc1 hv hL HD HY
      go_wp2_with fail
      go_loopw [16] (fun i wr => ∃ k : Nat, k ≤ L ∧ i = .int .i64 k ∧ Hid (DevIs base wr ⟨B, G, V, m, cG⟩ (finAll d1 (d1.W.take k)) ∧ Ch (Foot ⟨B, G, V, m, cG⟩ d) w wr)) (fun i _ => L - (intOf i).toNat)
      case atStart => exact ⟨0, Nat.zero_le _, rfl, Lib.hid ⟨H1.out, HC1.out⟩⟩
      case round =>
        obtain ⟨k, hk, rfl, HK⟩ := hrel
        by_cases hlt : k < L
        · obtain ⟨x, hx⟩ : ∃ x, d1.W[k]? = some x := ⟨_, List.getElem?_eq_getElem (by rw [← HL.out]; exact hlt)⟩
          obtain ⟨wz, wx, H, g, cap, hv, hR⟩ := wtR HK.out.1 (k := k) (x := x) (by rw [finAll_W]; exact hx)
          rw [finAll_W, ← HL.out] at hv
          have hv2 := HV.out.symm.trans hv
          injection hv2 with q1 q2 q3
          subst q1
          subst q3
          have HR := Lib.hid hR
          have HX := Lib.hid hx
          have hxk := H1.out.wok x (List.mem_of_getElem? hx)
          have hdx : DevIs base wx ⟨B, G, V, m, cG⟩ (finAll d1 (d1.W.take k)) := HK.out.1.gr hR.ch
          have HF := Lib.hid (finish_any base _ _ x wx hdx (by rw [finAll_n]; exact hxk.1) hxk.2)
          have i1 : (0 : Int) ≤ (k : Int) := Int.natCast_nonneg _
          have i2 : (k : Int) < (L : Int) := by omega
          clear hv q2 hR hx hxk hdx
          go_wp2_with (first
            | ((with_reducible refine wpList_same ?_); first
            | refine wpList_loading _ rfl 95 (.tmp 18) rfl (.agg (wtC x).toArray) ⟨g, k * 257, none⟩ rfl (by exact HR.out.ld) ?_
            | refine wpList_making _ wz rfl 95 rfl (wtC ⟨0, fun _ => 0⟩).toArray H (by exact zero_write _) (by exact HR.out.sz) (by exact HR.out.al) ?_
            | refine wpList_storing _ wx rfl 95 (.tmp 4) (.tmp 19) rfl (.agg (wtC x).toArray) ⟨H, 0, none⟩ rfl rfl (by exact HR.out.st) ?_
            | refine wpList_loading _ rfl 95 (.tmp 4) rfl (.agg (wtC x).toArray) ⟨H, 0, none⟩ rfl (by exact HR.out.l2) ?_)
            | (go_at_call 55; refine HF.out.mono ?_; rintro e w2 ⟨rfl, h2, hc2⟩))
          have HK2 := Lib.hid (show DevIs base w2 ⟨B, G, V, m, cG⟩ (finAll d1 (d1.W.take (k + 1))) by rw [take_snoc HX.out, finAll_snoc]; exact h2)
          have HC2 := Lib.hid (show Ch (Foot ⟨B, G, V, m, cG⟩ d) w w2 from (HK.out.2.trans (HR.out.ch.mono fun _ _ f => f.elim)).trans (hc2.mono fun i _ hi => (foot_n (by rw [finAll_n, HN.out])).1 hi))
          clear h2 hc2
          go_wp2
          go_roundw
          case rel => exact ⟨k + 1, by omega, by go_num, Lib.hid ⟨HK2.out, HC2.out⟩⟩
          case measure => simp [intOf]; omega
        · obtain rfl : k = L := by omega
          have f1 := HK.out.1.frB 1
          have c3 : wr.cell? ⟨B, 1, none⟩ = some V := HK.out.1.cellB 1
          have HP := Lib.hid (nilW_post (r := .int .i64 0) HK.out.1 (by rw [finAll_n, HN.out]) HK.out.2)
          rw [HL.out, List.take_length] at HP
          go_wp2
          go_ret
          exact HP.out
    · have HS := Lib.hid (show flushE d = 21 ∧ flushD d = diesD d by unfold flushE flushD; rw [hd, hy]; exact ⟨rfl, rfl⟩)
      rw [hy] at HY
      rw [HS.out.1, HS.out.2]
      clear h hd hy
      go_enter Tryz.func48, Tryz.ntmps48
      go_wp2_with fail
      refine HD.out.mono ?_
      rintro e w' ⟨rfl, rfl⟩
      go_wp2_with fail
      refine HY.out.mono ?_
      rintro e w1 ⟨rfl, h1, hc1⟩
      have HP := Lib.hid (DPost.turned (base := base) (r := .int .i64 21) h1 (diesD_W d).2 hc1)
      clear h1 hc1
      go_wp2
      go_ret
      exact HP.out
  · rw [hd] at HD
    have HS := Lib.hid (show flushE d = 21 ∧ flushD d = d by unfold flushE flushD; rw [hd]; exact ⟨rfl, rfl⟩)
    have HP := Lib.hid (DPost.turned (base := base) (r := .int .i64 21) h rfl (Ch.refl _ w))
    rw [HS.out.1, HS.out.2]
    clear h hd
    go_enter Tryz.func48, Tryz.ntmps48
    go_wp2_with fail
    refine HD.out.mono ?_
    rintro e w' ⟨rfl, rfl⟩
    go_wp2
    go_ret
    exact HP.out
/-! ### Crash -/
def RowQ (w : World) (v : Value) (m : Nat) (q : Nat → Bool) : Prop :=
  ∃ (A : Option Addr) (C : Nat), v = .slice A m C ∧ m ≤ 9223372036854775807 ∧ (0 < m → ∃ b o, A = some ⟨b, o, none⟩ ∧ ∀ c, c < m → w.cell? ⟨b, o + c, none⟩ = some (.bool (q c)))
theorem RowQ.at {w : World} {A : Option Addr} {m C : Nat} {q : Nat → Bool} (h : RowQ w (.slice A m C) m q) (hm : 0 < m) : ∃ b o, A = some ⟨b, o, none⟩ ∧ ∀ c, c < m → w.cell? ⟨b, o + c, none⟩ = some (.bool (q c)) := by
  obtain ⟨_, _, e, _, h3⟩ := h
  injection e with e _ _
  subst e
  exact h3 hm
def keepB (m : Nat) (q : Nat → Bool) (i : Nat) : Bool := decide (0 < m) && q (i % m)
/-- The first k of what waits, done as far as they are kept. -/
def crTo (d : Dev) (m : Nat) (q : Nat → Bool) : Nat → Dev
  | 0 => d
  | k + 1 => match d.W[k]? with
    | some x => if keepB m q k then finD (crTo d m q k) x else crTo d m q k
    | none => crTo d m q k
def crashD (d : Dev) (m : Nat) (q : Nat → Bool) : Dev := { crTo d m q d.W.length with W := [], dead := false, armed := false }
end Go.Proofs.YtlbdopcchoklhaaGreat
namespace Go.Proofs.YtlbdopcchoklhaaGreat
open Go.RowKit
set_option linter.unusedVariables false
set_option maxRecDepth 100000

def ofS (W : List Wt) (a : Nat) : List Wt := W.filter (fun x => decide (x.pl = a))
def offS (W : List Wt) (a : Nat) : List Wt := W.filter (fun x => !decide (x.pl = a))
def settleD (d : Dev) (a : Nat) : Dev := { finAll d (ofS d.W a) with W := offS d.W a }
theorem ofS_snoc (L : List Wt) (x : Wt) (a : Nat) : ofS (L ++ [x]) a = if x.pl = a then ofS L a ++ [x] else ofS L a := by
  unfold ofS
  rw [List.filter_append]
  by_cases h : x.pl = a
  · rw [if_pos h]; simp [h]
  · rw [if_neg h]; simp [h]
theorem offS_snoc (L : List Wt) (x : Wt) (a : Nat) : offS (L ++ [x]) a = if x.pl = a then offS L a else offS L a ++ [x] := by
  unfold offS
  rw [List.filter_append]
  by_cases h : x.pl = a
  · rw [if_pos h]; simp [h]
  · rw [if_neg h]; simp [h]
theorem offS_len (L : List Wt) (a : Nat) : (offS L a).length ≤ L.length := List.length_filter_le _ _
/-- Between two rounds. -/
structure SetSt (base : Nat) (w wr : World) (p : Ph) (d : Dev) (a : Nat) (L : List Wt) (v : Value) : Prop where
  dev : DevIs base wr p (finAll d (ofS L a))
  own : wr.ownsRow w.heap.size 95 257 v (offS L a).length (wtsL (offS L a))
  ch : Ch (Foot p d) w wr
theorem SetSt.far {base : Nat} {w wr : World} {p : Ph} {d : Dev} {a : Nat} {L : List Wt} {v : Value} (h : SetSt base w wr p d a L v) (h0 : DevIs base w p d) {i : Nat} (hi : Foot p d i) : ¬ v.ownBlock = some i := fun e => by
  have := (own_at h.own e).1
  have := (h0.foot hi).2
  omega
theorem SetSt.fin {base : Nat} {w wr wx w2 : World} {p : Ph} {d : Dev} {a : Nat} {L : List Wt} {v : Value} {x : Wt} (h : SetSt base w wr p d a L v) (h0 : DevIs base w p d) (hx : x.pl = a) (k : Ch (fun _ => False) wr wx)
    (h2 : DevIs base w2 p (finD (finAll d (ofS L a)) x)) (k2 : Ch (Foot p (finAll d (ofS L a))) wx w2) : SetSt base w w2 p d a (L ++ [x]) v := by
  have k3 : Ch (Foot p d) wr w2 := (k.mono fun _ _ f => f.elim).trans (k2.mono fun i _ hi => (foot_n (finAll_n _ _)).1 hi)
  refine ⟨by rw [ofS_snoc, if_pos hx, finAll_snoc]; exact h2, ?_, h.ch.trans k3⟩
  rw [offS_snoc, if_pos hx]
  exact own_of h.own (fun i hi => k3.block i (blk_lt (own_at h.own hi).2.choose_spec) (fun f => h.far h0 f hi))
theorem SetSt.app {base : Nat} {w wr wx : World} {p : Ph} {d : Dev} {a : Nat} {L : List Wt} {v : Value} {x : Wt} (h : SetSt base w wr p d a L v) (h0 : DevIs base w p d) (hx : ¬ x.pl = a) (k : Ch (fun _ => False) wr wx) (hl : L.length ≤ 1048575) :
    ∃ g cap w2, (Builtin.append_ #[ 90, 90] 90 #[v, .slice (some ⟨wx.heap.size, 0, none⟩) 1 1]).run Tryz.prog (wx.alloc (.cells (wtC x).toArray 95)) = .ok (.slice (some ⟨g, 0, none⟩) ((offS L a).length + 1) cap) w2 ∧ SetSt base w w2 p d a (L ++ [x]) (.slice (some ⟨g, 0, none⟩) ((offS L a).length + 1) cap) := by
  have k1 : Ch (fun _ => False) wr (wx.alloc (.cells (wtC x).toArray 95)) := k.alloc _ _
  have ho : (wx.alloc (.cells (wtC x).toArray 95)).ownsRow w.heap.size 95 257 v (offS L a).length (wtsL (offS L a)) := own_of h.own (fun i hi => k1.block i (blk_lt (own_at h.own hi).2.choose_spec) (fun f => f))
  have hsz : w.heap.size ≤ (wx.alloc (.cells (wtC x).toArray 95)).heap.size := Nat.le_trans h.ch.size k1.size
  obtain ⟨g, cap, w2, hr, h2, h3, h4⟩ := app_wt (x := x) (ad := ⟨wx.heap.size, 0, none⟩) (C := 1) ho hsz (fun j u hu => by rw [add_pl, Nat.zero_add, alloc_cell, List.getElem?_toArray]; exact hu) (by have := offS_len L a; omega)
  have k2 : Ch (fun i => v.ownBlock = some i) (wx.alloc (.cells (wtC x).toArray 95)) w2 := (Ch.refl _ _).grown h3 (fun i hi => Or.inl hi)
  have k3 : Ch (fun i => v.ownBlock = some i) wr w2 := (k1.mono fun _ _ f => f.elim).trans k2
  refine ⟨g, cap, w2, hr, ?_, ?_, ?_⟩
  · rw [ofS_snoc, if_neg hx]
    exact h.dev.ch k3 (fun i hi => h.far h0 ((foot_n (finAll_n _ _)).1 hi))
  · rw [offS_snoc, if_neg hx]
    exact h2
  · refine ⟨k3.os.trans h.ch.os, k3.tape.trans h.ch.tape, k3.output.trans h.ch.output, Nat.le_trans h.ch.size k3.size, fun i hi hf => ?_⟩
    rw [k3.block i (Nat.lt_of_lt_of_le hi h.ch.size) (fun e => by have := (own_at h.own e).1; omega)]
    exact h.ch.block i hi hf
theorem SetSt.done {base : Nat} {w wr : World} {p : Ph} {d : Dev} {a : Nat} {v : Value} (h : SetSt base w wr p d a d.W v) (h0 : DevIs base w p d) : DPost base p d (settleD d a) (.tuple #[]) w (.returned (.tuple #[])) (wr.setCell ⟨p.B, 1, none⟩ v) := by
  have hb : base ≤ w.heap.size := Nat.le_trans h0.lowB (Nat.le_of_lt (blk_lt h0.blk))
  have hBv : v.ownBlock ≠ some p.B := h.far h0 (Or.inl rfl)
  refine ⟨rfl, { p with V := v }, rfl, ?_, ?_, h.ch.setCell (p := ⟨p.B, 1, none⟩) (Or.inl (Or.inl rfl)) _⟩
  · refine h.dev.turnW (W' := offS d.W a) (Ch.setCell (S := fun i => i = p.B ∨ p.V.ownBlock = some i) (Ch.refl _ wr) (p := ⟨p.B, 1, none⟩) (Or.inl (Or.inl rfl)) _) (blk_set h.dev.blk _) ?_ ?_
    · have h2 : (wr.setCell ⟨p.B, 1, none⟩ v).ownsRow w.heap.size 95 257 v (offS d.W a).length (wtsL (offS d.W a)) := own_of h.own (fun i hi => (Ch.setCell (S := fun j => j = p.B) (Ch.refl _ wr) (p := ⟨p.B, 1, none⟩) (Or.inl rfl) v).block i (blk_lt (own_at h.own hi).2.choose_spec) (fun e => hBv (e ▸ hi)))
      refine ⟨h2.1, ?_⟩
      rcases h2.2 with q | ⟨g, cap, cur, q1, q2, q3⟩
      · exact Or.inl q
      · exact Or.inr ⟨g, cap, cur, q1, Nat.le_trans hb q2, q3⟩
    · intro x hx
      rw [finAll_n]
      exact h0.wok x (List.mem_filter.1 hx).1
  · intro i hi
    rcases hi with hi | hi | hi | hi
    · exact Or.inl (Or.inl hi)
    · exact Or.inl (Or.inr (Or.inl hi))
    · exact Or.inr (own_at h.own hi).1
    · exact Or.inl (Or.inr (Or.inr (Or.inr (by
        obtain ⟨b, hb1, hb2⟩ := hi
        exact ⟨b, by have := finAll_n (ofS d.W a) d; rw [← this]; exact hb1, hb2⟩))))
set_option maxHeartbeats 800000 in
set_option maxRecDepth 100000 in
theorem settle_any (base : Nat) (p : Ph) (d : Dev) (a : Nat) (w : World) (h : DevIs base w p d) (hW : d.W.length ≤ 1048576) :
    Calls Tryz.prog 121 #[.pointer (some ⟨p.B, 0, none⟩), .int .i64 (a : Int)] w (DPost base p d (settleD d a) (.tuple #[]) w) := by
  obtain ⟨A, C, hv⟩ := h.vform
  have c1 : w.cell? ⟨p.B, 1, none⟩ = some p.V := h.cellB 1
  rw [hv] at c1
  obtain ⟨L, hL⟩ : ∃ L, L = d.W.length := ⟨_, rfl⟩
  rw [← hL] at c1 hv hW
  have HV := Lib.hid hv
  have HL := Lib.hid hL
  have H0 := Lib.hid h
  have HS0 := Lib.hid (show SetSt base w w p d a (d.W.take 0) (.slice none 0 0) from ⟨h, World.ownsRow_nil _ _ _ _, Ch.refl _ _⟩)
  obtain ⟨B, G, V, m, cG⟩ := p
  clear h hv hL
  go_enter Tryz.func121, Tryz.ntmps121
  go_wp2_with fail
  go_loopw [4, 12] (fun v i wr => ∃ k : Nat, k ≤ L ∧ i = .int .i64 k ∧ Hid (SetSt base w wr ⟨B, G, V, m, cG⟩ d a (d.W.take k) v)) (fun _ i _ => L - (intOf i).toNat)
  case atStart => exact ⟨0, Nat.zero_le _, rfl, HS0⟩
  case round =>
    obtain ⟨k, hk, rfl, HK⟩ := hrel
    by_cases hlt : k < L
    · obtain ⟨x, hx⟩ : ∃ x, d.W[k]? = some x := ⟨_, List.getElem?_eq_getElem (by rw [← HL.out]; exact hlt)⟩
      obtain ⟨wz, wx, H, g, cap, hv, hR⟩ := wtR HK.out.dev (k := k) (x := x) (by rw [finAll_W]; exact hx)
      rw [finAll_W, ← HL.out] at hv
      have hv2 := HV.out.symm.trans hv
      injection hv2 with q1 q2 q3
      subst q1
      subst q3
      have HR := Lib.hid hR
      have HX := Lib.hid hx
      have hxk := H0.out.wok x (List.mem_of_getElem? hx)
      have hdx : DevIs base wx ⟨B, G, V, m, cG⟩ (finAll d (ofS (d.W.take k) a)) := HK.out.dev.gr hR.ch
      have HF := Lib.hid (finish_any base _ _ x wx hdx (by rw [finAll_n]; exact hxk.1) hxk.2)
      have i1 : (0 : Int) ≤ (k : Int) := Int.natCast_nonneg _
      have i2 : (k : Int) < (L : Int) := by omega
      have cH : wx.cell? ⟨H, 0, none⟩ = some (.int .i64 (x.pl : Int)) := by rw [blk_cell hR.cx, List.getElem?_toArray, wtC_zero]
      by_cases hq : x.pl = a
      · have t1 : ((x.pl : Int) == (a : Int)) = true := by simp [hq]
        have HQ := Lib.hid hq
        clear hv q2 hR hx hxk hdx hq
        go_wp2_with (first
          | ((with_reducible refine wpList_same ?_); first
            | refine wpList_loading _ rfl 95 (.tmp 14) rfl (.agg (wtC x).toArray) ⟨g, k * 257, none⟩ rfl (by exact HR.out.ld) ?_
            | refine wpList_making _ wz rfl 95 rfl (wtC ⟨0, fun _ => 0⟩).toArray H (by exact zero_write _) (by exact HR.out.sz) (by exact HR.out.al) ?_
            | refine wpList_storing _ wx rfl 95 (.tmp 6) (.tmp 15) rfl (.agg (wtC x).toArray) ⟨H, 0, none⟩ rfl rfl (by exact HR.out.st) ?_
            | refine wpList_loading _ rfl 95 (.tmp 6) rfl (.agg (wtC x).toArray) ⟨H, 0, none⟩ rfl (by exact HR.out.l2) ?_)
          | (go_at_call 55; refine HF.out.mono ?_; rintro e w2 ⟨rfl, h2, hc2⟩))
        have HK2 := Lib.hid (HK.out.fin H0.out HQ.out HR.out.ch h2 hc2)
        rw [← take_snoc HX.out] at HK2
        clear h2 hc2
        go_wp2
        go_roundw
        case rel => exact ⟨k + 1, by omega, by go_num, HK2⟩
        case measure => simp [intOf]; omega
      · have t1 : ((x.pl : Int) == (a : Int)) = false := by simp; omega
        obtain ⟨g2, cap2, w2, hr2, hs2⟩ := HK.out.app H0.out hq hR.ch (by rw [List.length_take]; omega)
        rw [← take_snoc hx] at hs2
        have HRUN := Lib.hid hr2
        have HSL := Lib.hid (slice_one wx x)
        obtain ⟨ws, hws⟩ : ∃ ws, ws = wx.alloc (.cells (wtC x).toArray 95) := ⟨_, rfl⟩
        obtain ⟨K, hK⟩ : ∃ K, K = wx.heap.size := ⟨_, rfl⟩
        obtain ⟨N, hN⟩ : ∃ N, N = (offS (d.W.take k) a).length + 1 := ⟨_, rfl⟩
        rw [← hws, ← hK, ← hN] at HRUN
        rw [← hws, ← hK] at HSL
        rw [← hN] at hs2
        have HS2 := Lib.hid hs2
        clear hv q2 hR hx hxk hdx hq hr2 hs2 hws hK hN HF
        go_wp2_with (first
          | ((with_reducible refine wpList_same ?_); first
            | refine wpList_loading _ rfl 95 (.tmp 14) rfl (.agg (wtC x).toArray) ⟨g, k * 257, none⟩ rfl (by exact HR.out.ld) ?_
            | refine wpList_making _ wz rfl 95 rfl (wtC ⟨0, fun _ => 0⟩).toArray H (by exact zero_write _) (by exact HR.out.sz) (by exact HR.out.al) ?_
            | refine wpList_storing _ wx rfl 95 (.tmp 6) (.tmp 15) rfl (.agg (wtC x).toArray) ⟨H, 0, none⟩ rfl rfl (by exact HR.out.st) ?_
            | refine wpList_loading _ rfl 95 (.tmp 6) rfl (.agg (wtC x).toArray) ⟨H, 0, none⟩ rfl (by exact HR.out.l2) ?_
            | refine wpList_slicing1 _ ws rfl 90 0 1 (.tmp 24) rfl (.agg (wtC x).toArray) (.slice (some ⟨K, 0, none⟩) 1 1) rfl (by exact HSL.out) ?_
            | refine wpList_appW _ rfl (.tmp 23) (.tmp 25) rfl rfl u4 (.slice (some ⟨K, 0, none⟩) 1 1) (.slice (some ⟨g2, 0, none⟩) N cap2) w2 rfl rfl (by exact HRUN.out) ?_))
        go_roundw
        case rel => exact ⟨k + 1, by omega, by go_num, HS2⟩
        case measure => simp [intOf]; omega
    · obtain rfl : k = L := by omega
      have f1 := HK.out.dev.frB 1
      have c3 : wr.cell? ⟨B, 1, none⟩ = some V := HK.out.dev.cellB 1
      rw [HL.out, List.take_length] at HK
      have HP := Lib.hid (HK.out.done H0.out)
      obtain ⟨A2, n2, C2, e2⟩ : ∃ A2 n2 C2, u4 = .slice A2 n2 C2 := by
        rcases HK.out.own.2 with ⟨e, _⟩ | ⟨_, _, _, e, _⟩
        · exact ⟨_, _, _, e⟩
        · exact ⟨_, _, _, e⟩
      subst e2
      go_wp2
      go_end0
      exact HP.out
end Go.Proofs.YtlbdopcchoklhaaGreat
namespace Go.Proofs.YtlbdopcchoklhaaGreat
open Go.RowKit
set_option linter.unusedVariables false
set_option maxRecDepth 100000

structure Fa where
  kind : Int
  pl : Int
  off : Int
  n : Int
  tto : Int
  k0 : Nat
  k1 : Nat
  k2 : Nat
  k3 : Nat
def faC (f : Fa) : Array Value := #[.int .i64 f.kind, .int .i64 f.pl, .int .i64 f.off, .int .i64 f.n, .int .i64 f.tto, .int .u8 (f.k0 : Int), .int .u8 (f.k1 : Int), .int .u8 (f.k2 : Int), .int .u8 (f.k3 : Int)]
def I64 (x : Int) : Prop := -9223372036854775808 ≤ x ∧ x ≤ 9223372036854775807
structure FaOk (f : Fa) : Prop where
  kind : I64 f.kind
  pl : I64 f.pl
  off : I64 f.off
  n : I64 f.n
  tto : I64 f.tto
  k0 : f.k0 < 256
  k1 : f.k1 < 256
  k2 : f.k2 < 256
  k3 : f.k3 < 256
structure FaR (w w1 : World) (H : Nat) (f : Fa) : Prop where
  al : w.alloc (.cells (faC f) 45) = w1
  sz : w.heap.size = H
  cx : w1.heap[H]? = some (.cells (faC f) 45 (0, 0))
  ch : Ch (fun _ => False) w w1
theorem faR (w : World) (f : Fa) : ∃ w1 H, FaR w w1 H f := ⟨_, _, rfl, rfl, heap_alloc_new w _, (Ch.refl _ w).alloc _ _⟩
theorem FaR.at {w w1 : World} {H : Nat} {f : Fa} (h : FaR w w1 H f) (i : Nat) : w1.cell? ⟨H, i, none⟩ = (faC f)[i]? := blk_cell h.cx

def dropE (f : Fa) : Int := if f.n < 1 ∨ 1000 < f.n then 1 else 0
def dropD (d : Dev) (f : Fa) : Dev := if f.n < 1 ∨ 1000 < f.n then d else { d with drops := up d.drops f.pl.toNat (d.drops f.pl.toNat + f.n.toNat) }
set_option maxHeartbeats 800000 in
set_option maxRecDepth 100000 in
theorem drop_any (base : Nat) (p : Ph) (d : Dev) (f : Fa) (w : World) (h : DevIs base w p d) (hf : FaOk f) (hp : 0 ≤ f.pl ∧ f.pl < d.n) (hdr : ∀ a, d.drops a ≤ 1152921504606846976) :
    Calls Tryz.prog 92 #[.pointer (some ⟨p.B, 0, none⟩), .agg (faC f)] w (DPost base p d (dropD d f) (.int .i64 (dropE f)) w) := by
  obtain ⟨w1, H, hR⟩ := faR w f
  obtain ⟨k, hk⟩ : ∃ k : Nat, f.pl = (k : Int) := ⟨f.pl.toNat, by omega⟩
  have hkn : k < d.n := by omega
  have h1 : DevIs base w1 p d := h.gr hR.ch
  have x1 : w1.cell? ⟨H, 1, none⟩ = some (.int .i64 (k : Int)) := by rw [← hk]; exact hR.at 1
  have x3 : w1.cell? ⟨H, 3, none⟩ = some (.int .i64 f.n) := hR.at 3
  have c0 : w1.cell? ⟨p.B, 0, none⟩ = some (.slice (some ⟨p.G, 0, none⟩) d.n p.c) := h1.cellB 0
  have cd : w1.cell? ⟨p.G, k * 259 + 257, none⟩ = some (.int .i64 (d.drops k : Int)) := h1.cellG hkn (by omega : 257 < 259)
  have fd := h1.frG (k * 259 + 257)
  have i1 : (0 : Int) ≤ (k : Int) := Int.natCast_nonneg _
  have i2 : (k : Int) < (d.n : Int) := by omega
  have HR := Lib.hid hR
  have hdk := hdr k
  have hn := hf.n
  unfold I64 at hn
  by_cases hq : f.n < 1 ∨ 1000 < f.n
  · have hS : dropE f = 1 ∧ dropD d f = d := by unfold dropE dropD; rw [if_pos hq, if_pos hq]; exact ⟨rfl, rfl⟩
    rw [hS.1, hS.2]
    have HP := Lib.hid (DPost.turned (base := base) (r := .int .i64 1) h1 rfl (hR.ch.mono fun _ _ f => f.elim) (w := w))
    obtain ⟨B, G, V, m, cG⟩ := p
    clear h h1 hR hk hS hf hp hdr
    by_cases hq1 : f.n < 1
    · clear hq
      go_enter Tryz.func92, Tryz.ntmps92
      go_wp2_with ((with_reducible refine wpList_same ?_); refine wpList_boxing _ w1 rfl 45 (.tmp 1) rfl (faC f) H rfl (by exact HR.out.sz) (by exact HR.out.al) ?_)
      go_ret
      exact HP.out
    · have hq2 : 1000 < f.n := by omega
      clear hq
      go_enter Tryz.func92, Tryz.ntmps92
      go_wp2_with ((with_reducible refine wpList_same ?_); refine wpList_boxing _ w1 rfl 45 (.tmp 1) rfl (faC f) H rfl (by exact HR.out.sz) (by exact HR.out.al) ?_)
      go_ret
      exact HP.out
  · have hS : dropE f = 0 ∧ dropD d f = { d with drops := up d.drops k (d.drops k + f.n.toNat) } := by unfold dropE dropD; rw [if_neg hq, if_neg hq, hk, Int.toNat_natCast]; exact ⟨rfl, rfl⟩
    rw [hS.1, hS.2]
    have hx : ((d.drops k + f.n.toNat : Nat) : Int) = (d.drops k : Int) + f.n := by omega
    have HD : Hid (∀ n, DPost base p d { d with drops := up d.drops k (d.drops k + f.n.toNat) } (.int .i64 0) w (.returned (.int .i64 0)) ((w1.drewN n).setCell ⟨p.G, k * 259 + 257, none⟩ (.int .i64 ((d.drops k : Int) + f.n)))) := fun n => by
      rw [← hx]
      exact DPost.turned ((h1.gr ((Ch.refl _ w1).drewN n)).setDrops hkn _) rfl (((hR.ch.drewN n).mono fun _ _ f => f.elim).trans (chGF (chG _ p _ _)))
    have HD1 := Lib.hid (HD.out 1)
    obtain ⟨B, G, V, m, cG⟩ := p
    clear h h1 hR hk hS hf hp hdr hx HD
    have hq1 : ¬ f.n < 1 := by omega
    have hq2 : ¬ 1000 < f.n := by omega
    clear hq
    go_enter Tryz.func92, Tryz.ntmps92
    go_wp2_with ((with_reducible refine wpList_same ?_); refine wpList_boxing _ w1 rfl 45 (.tmp 1) rfl (faC f) H rfl (by exact HR.out.sz) (by exact HR.out.al) ?_)
    go_region
    all_goals (go_wp2; go_ret; exact HD1.out)
def loseD (d : Dev) (k : Nat) : Dev := { settleD d k with lost := up (settleD d k).lost k true }
set_option maxHeartbeats 800000 in
set_option maxRecDepth 100000 in
theorem lose_any (base : Nat) (p : Ph) (d : Dev) (f : Fa) (w : World) (h : DevIs base w p d) (hW : d.W.length ≤ 1048576) (hp : 0 ≤ f.pl ∧ f.pl < d.n) :
    Calls Tryz.prog 91 #[.pointer (some ⟨p.B, 0, none⟩), .agg (faC f)] w (DPost base p d (loseD d f.pl.toNat) (.int .i64 0) w) := by
  obtain ⟨w1, H, hR⟩ := faR w f
  obtain ⟨k, hk⟩ : ∃ k : Nat, f.pl = (k : Int) := ⟨f.pl.toNat, by omega⟩
  have hkn : k < d.n := by omega
  have h1 : DevIs base w1 p d := h.gr hR.ch
  have x1 : w1.cell? ⟨H, 1, none⟩ = some (.int .i64 (k : Int)) := by rw [← hk]; exact hR.at 1
  rw [show f.pl.toNat = k by omega]
  have HT := Lib.hid (settle_any base p d k w1 h1 hW)
  have i1 : (0 : Int) ≤ (k : Int) := Int.natCast_nonneg _
  have HR := Lib.hid hR
  have HX := Lib.hid (show ¬ Foot p d H from fun q => by have := (h.foot q).2; have := hR.sz; omega)
  have HK := Lib.hid hkn
  clear h h1 hp hW
  obtain ⟨B, G, V, m, cG⟩ := p
  go_enter Tryz.func91, Tryz.ntmps91
  go_wp2_with (first
    | ((with_reducible refine wpList_same ?_); refine wpList_boxing _ w1 rfl 45 (.tmp 1) rfl (faC f) H rfl (by exact HR.out.sz) (by exact HR.out.al) ?_)
    | (go_at_call 121; refine HT.out.mono ?_; rintro e w2 ⟨rfl, p2, hp2, h2, hf2, hc2⟩))
  have hn2 : (settleD d k).n = d.n := finAll_n _ _
  have x2 : w2.cell? ⟨H, 1, none⟩ = some (.int .i64 (k : Int)) := hc2.cell x1 HX.out
  have c0 : w2.cell? ⟨B, 0, none⟩ = some (.slice (some ⟨p2.G, 0, none⟩) (settleD d k).n p2.c) := by have := h2.cellB 0; rw [hp2] at this; exact this
  rw [hn2] at c0
  have cl : w2.cell? ⟨p2.G, k * 259 + 256, none⟩ = some (.bool ((settleD d k).lost k)) := h2.cellG (by rw [hn2]; exact HK.out) (by omega : 256 < 259)
  have fl := h2.frG (k * 259 + 256)
  have i2 : (k : Int) < (d.n : Int) := by have := HK.out; omega
  have HD1 := Lib.hid (show DPost base ⟨B, G, V, m, cG⟩ d (loseD d k) (.int .i64 0) w (.returned (.int .i64 0)) ((w2.drewN 1).setCell ⟨p2.G, k * 259 + 256, none⟩ (.bool true)) from
    ⟨rfl, p2, hp2, (h2.gr ((Ch.refl _ w2).drewN 1)).setLost (by rw [hn2]; exact HK.out) true, fun i hi => by
      rcases hf2 i hi with q | q
      · exact Or.inl q
      · exact Or.inr (Nat.le_trans HR.out.ch.size q), by
      have k1 : Ch (Foot ⟨B, G, V, m, cG⟩ d) w w2 := (HR.out.ch.mono fun _ _ f => f.elim).trans hc2
      have k2 : Ch (Foot ⟨B, G, V, m, cG⟩ d) w (w2.drewN 1) := k1.drewN 1
      refine k2.setCell (p := ⟨p2.G, k * 259 + 256, none⟩) ?_ _
      rcases hf2 p2.G (Or.inr (Or.inl rfl)) with q | q
      · exact Or.inl q
      · exact Or.inr (Nat.le_trans HR.out.ch.size q)⟩)
  obtain ⟨G2, hG2⟩ : ∃ G2, G2 = p2.G := ⟨_, rfl⟩
  rw [← hG2] at c0 cl fl HD1
  clear h2 hf2 hc2 hp2 hR x1 hn2 hG2
  go_region
  all_goals (go_wp2; go_ret; exact HD1.out)
end Go.Proofs.YtlbdopcchoklhaaGreat
