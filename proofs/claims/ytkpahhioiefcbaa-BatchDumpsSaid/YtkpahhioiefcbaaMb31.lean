/-
  batch: read, walked. batch: Decode, walked. batch: Fill, walked.
-/
import Derived.Test.YtkpahhioiefcbaaMb30
import Derived.Laws.ResultCell
namespace Go.Proofs.Ytkpahhioiefcbaa
open Go.RowKit
set_option linter.unusedVariables false
set_option maxRecDepth 100000
set_option linter.unusedSimpArgs false

theorem results_ch {fn : Func} {p u : Tmp} (h : fn.results = #[.cell p 44, .tmp u]) (tmps : Array Value) (w : World) (H : Nat) (x : ChV) (hp : tmps.getD p undef = .pointer (some ⟨H, 0, none⟩)) (hg : w.heap[H]? = some (.cells (chC x) 44 (0, 0))) :
    (results fn tmps).run Try.prog w = .ok (.tuple #[.agg (chC x), tmps.getD u undef]) w := by
  rw [results_cell_tmp h, hp]
  simp [asAddr, load_ch hg]
/-- What read answers. -/
def ReadP (B : Nat) (x : Value) (n : Nat) (z : Nat → Nat) (w : World) (e : Ending) (w' : World) : Prop := ∃ c, e = .returned (.tuple #[.agg (chC c), .int .i64 (oE n z : Int)]) ∧ Ch (fun i => i = B) w w' ∧ (oE n z = 0 → c = oX n z ∧ ∃ x', InIs w' B x' (n - oK n z) (tl z (oK n z)) ∧ ∀ S, Off S x → Off S x')
theorem read_bad {B n E : Nat} {x : Value} {z : Nat → Nat} {w w' : World} {c : ChV} (h : oE n z = E) (h0 : ¬ E = 0) (k : Ch (fun i => i = B) w w') : ReadP B x n z w (.returned (.tuple #[.agg (chC c), .int .i64 (E : Int)])) w' :=
  ⟨c, by rw [h], k, fun q => absurd (h ▸ q) h0⟩
/-- What stands behind a change that is stored into the answer's cell. -/
theorem cell_st {S : Nat → Prop} {w w0 w1 : World} {H B : Nat} (hz : ZeC w w0 H) (k : Ch S w0 w1) (hS : ¬ S H) (c : ChV) : ∃ w2, StC w1 w2 H c := stC ((k.block H (blk_lt hz.cx) hS).trans hz.cx)
theorem in_st {w0 w1 w2 : World} {H B n : Nat} {x : Value} {z : Nat → Nat} {c : ChV} (h : InIs w1 B x n z) (hs : StC w1 w2 H c) (hB : B ≠ H) (ho : Off (fun i => i = H) x) : InIs w2 B x n z := h.ch hs.ch hB ho
theorem ch_cell {w w0 w1 w2 : World} {H B : Nat} {c : ChV} (hz : ZeC w w0 H) (k : Ch (fun i => i = B) w0 w1) (hs : StC w1 w2 H c) : Ch (fun i => i = B) w w2 :=
  ch_then ((hz.ch.mono fun _ _ f => f.elim).trans k) hs.ch fun i e => Or.inr (by rw [e, ← hz.sz]; exact Nat.le_refl _)
set_option maxHeartbeats 6400000 in
theorem read_any {B n : Nat} {x : Value} {z : Nat → Nat} {w : World} (h : InIs w B x n z) (hn : n ≤ 1048576) : Calls Try.prog 23 #[.pointer (some ⟨B, 0, none⟩)] w (ReadP B x n z w) := by
  obtain ⟨w0, H, hz⟩ := zeC w
  have hBH : B < H := by rw [← hz.sz]; exact h.box.lt
  have HB := Lib.hid hBH
  have HOX := Lib.hid (show Off (fun i => i = H) x from (h.row.low).mono fun i e => by rw [e, ← hz.sz]; exact Nat.le_refl _)
  have HLB := Lib.hid (ibytes_g (h.gr hz.ch) hn)
  have HZ := Lib.hid hz
  have HSZ := Lib.hid (show H < w0.heap.size from blk_lt hz.cx)
  clear h hz hBH
  by_cases h1 : hE n z = 0
  case neg =>
    have e1 : ¬ ((hE n z : Nat) : Int) = 0 := by omega
    have HO1 := Lib.hid (oe_1 h1)
    have HN1 := Lib.hid h1
    obtain ⟨q, hq⟩ : ∃ q, q = hE n z := ⟨_, rfl⟩
    rw [← hq] at HLB e1 HO1 HN1
    clear h1 hq
    go_enter Try.func23, Try.ntmps23
    go_wp2_with (first
      | ((with_reducible refine wpList_isOp (.alloc 44) rfl ?_); refine wpList_making _ w0 rfl 44 rfl (chC ch0) H (zero_ch _) (by exact HZ.out.sz) (by exact HZ.out.al) ?_)
      | fail)
    refine HLB.out.mono ?_
    rintro e w1 ⟨y, rfl, _, _, _, _, k1⟩
    obtain ⟨w2, hs⟩ := cell_st (B := B) HZ.out k1 (fun e => by have := HB.out; omega) ch0
    have HST := Lib.hid hs
    have HFIN := Lib.hid (read_bad (x := x) (c := ch0) HO1.out HN1.out (ch_cell HZ.out k1 hs))
    clear k1 hs HLB
    go_wp2_with (first
      | ((with_reducible refine wpList_isOp (.store 44 (.tmp 2) (.tmp 16)) rfl ?_); refine wpList_storing _ w2 rfl 44 (.tmp 2) (.tmp 16) rfl (.agg (chC ch0)) ⟨H, 0, none⟩ rfl rfl (by exact HST.out.st) ?_)
      | fail)
    exact bodyPost_ret (v := .tuple #[.agg (chC ch0), .int .i64 (q : Int)]) (results_ch Try.results23 _ _ H ch0 rfl HST.out.cx) rfl HFIN.out
  case pos =>
    rw [h1] at HLB
    have HE1 := Lib.hid h1
    clear h1
    go_enter Try.func23, Try.ntmps23
    go_wp2_with (first
      | ((with_reducible refine wpList_isOp (.alloc 44) rfl ?_); refine wpList_making _ w0 rfl 44 rfl (chC ch0) H (zero_ch _) (by exact HZ.out.sz) (by exact HZ.out.al) ?_)
      | fail)
    refine HLB.out.mono ?_
    rintro e w1 ⟨y, rfl, hcv, x1, hi1, ho1, k1⟩
    have HCV := Lib.hid hcv
    have HK1 := Lib.hid k1
    have HO1 := Lib.hid ho1
    have hnum := inum_g hi1
    have e2 : gE (n - hK n z) (tl z (hK n z)) = gE (oN1 n z) (oZ1 n z) := rfl
    have e3 : gV (n - hK n z) (tl z (hK n z)) = oV n z := rfl
    have e4 : n - hK n z - gK (n - hK n z) (tl z (hK n z)) = oN2 n z := rfl
    have e5 : tl (tl z (hK n z)) (gK (n - hK n z) (tl z (hK n z))) = oZ2 n z := rfl
    rw [e2, e3, e4, e5] at hnum
    have HNUM := Lib.hid hnum
    clear hcv k1 ho1 hnum e2 e3 e4 e5 hi1 HLB
    by_cases h2 : gE (oN1 n z) (oZ1 n z) = 0
    case neg =>
      have e1 : ¬ ((gE (oN1 n z) (oZ1 n z) : Nat) : Int) = 0 := by omega
      have HO2 := Lib.hid (oe_2 HE1.out h2)
      have HN2 := Lib.hid h2
      obtain ⟨q, hq⟩ : ∃ q, q = gE (oN1 n z) (oZ1 n z) := ⟨_, rfl⟩
      obtain ⟨q2, hq2⟩ : ∃ q2, q2 = oV n z := ⟨_, rfl⟩
      rw [← hq] at HNUM e1 HO2 HN2
      rw [← hq2] at HNUM
      clear h2 hq hq2
      go_wp2_with fail
      refine HNUM.out.mono ?_
      rintro e w2 ⟨rfl, _, _, _, k2⟩
      have k2' := HK1.out.trans k2
      obtain ⟨w3, hs⟩ := cell_st (B := B) HZ.out k2' (fun e => by have := HB.out; omega) ch0
      have HST := Lib.hid hs
      have HFIN := Lib.hid (read_bad (x := x) (c := ch0) HO2.out HN2.out (ch_cell HZ.out k2' hs))
      clear k2 k2' hs HNUM
      go_wp2_with (first
        | ((with_reducible refine wpList_isOp (.store 44 (.tmp 2) (.tmp 25)) rfl ?_); refine wpList_storing _ w3 rfl 44 (.tmp 2) (.tmp 25) rfl (.agg (chC ch0)) ⟨H, 0, none⟩ rfl rfl (by exact HST.out.st) ?_)
        | fail)
      exact bodyPost_ret (v := .tuple #[.agg (chC ch0), .int .i64 (q : Int)]) (results_ch Try.results23 _ _ H ch0 rfl HST.out.cx) rfl HFIN.out
    case pos =>
      rw [h2] at HNUM
      have HE2 := Lib.hid h2
      clear h2
      by_cases h3 : oV n z ≤ 1
      case neg =>
        have HO3 := Lib.hid (oe_3 HE1.out HE2.out h3)
        obtain ⟨q2, hq2⟩ : ∃ q2, q2 = oV n z := ⟨_, rfl⟩
        rw [← hq2] at HNUM h3
        have e1 : ¬ (q2 : Int) = 0 := by omega
        have e2 : ¬ (q2 : Int) = 1 := by omega
        clear h3 hq2
        go_wp2_with fail
        refine HNUM.out.mono ?_
        rintro e w2 ⟨rfl, _, _, _, k2⟩
        have k2' := HK1.out.trans k2
        obtain ⟨w3, hs⟩ := cell_st (B := B) HZ.out k2' (fun e => by have := HB.out; omega) ch0
        have HST := Lib.hid hs
        have HFIN := Lib.hid (read_bad (x := x) (c := ch0) HO3.out (by omega) (ch_cell HZ.out k2' hs))
        clear k2 k2' hs HNUM
        go_wp2_with (first
          | ((with_reducible refine wpList_isOp (.store 44 (.tmp 2) (.tmp 49)) rfl ?_); refine wpList_storing _ w3 rfl 44 (.tmp 2) (.tmp 49) rfl (.agg (chC ch0)) ⟨H, 0, none⟩ rfl rfl (by exact HST.out.st) ?_)
          | fail)
        exact bodyPost_ret (v := .tuple #[.agg (chC ch0), .int .i64 7]) (results_ch Try.results23 _ _ H ch0 rfl HST.out.cx) rfl HFIN.out
      case pos =>
        by_cases h4 : oV n z = 0
        · rw [h4] at HNUM
          have HE3 := Lib.hid h4
          clear h3 h4
          go_wp2_with fail
          refine HNUM.out.mono ?_
          rintro e w2 ⟨rfl, x2, hi2, ho2, k2⟩
          have k2' := HK1.out.trans k2
          have hcv := HCV.out w2 (fun i => i = B) k2 (fun i e => Or.inl (by rw [e]; have := HSZ.out; have := HB.out; omega))
          obtain ⟨w3, hs⟩ := cell_st (B := B) HZ.out k2' (fun e => by have := HB.out; omega) (hT n z, ByteArray.empty, true)
          have HST := Lib.hid hs
          obtain ⟨p1, p2, p3, p4⟩ := o0 HE1.out HE2.out HE3.out
          have HFIN : Hid (ReadP B x n z w (.returned (.tuple #[.agg (chC (hT n z, ByteArray.empty, true)), .int .i64 0])) w3) := Lib.hid ⟨_, by rw [p1]; rfl, ch_cell HZ.out k2' hs, fun _ => ⟨p2.symm, x2, by
            rw [← p3, ← p4]
            exact in_st (w0 := w0) hi2 hs (by have := HB.out; omega) (ho2 _ (HO1.out _ HOX.out)), fun S hS => ho2 S (HO1.out S hS)⟩⟩
          clear k2 k2' hs p1 p2 p3 p4 hi2 ho2 HNUM HCV
          go_wp2_with (first
            | ((with_reducible refine wpList_isOp (.store 44 (.tmp 2) (.tmp 32)) rfl ?_); refine wpList_storing _ w3 rfl 44 (.tmp 2) (.tmp 32) rfl (.agg (chC (hT n z, ByteArray.empty, true))) ⟨H, 0, none⟩ rfl rfl (by exact HST.out.st) ?_)
            | fail)
          exact bodyPost_ret (v := .tuple #[.agg (chC (hT n z, ByteArray.empty, true)), .int .i64 0]) (results_ch Try.results23 _ _ H (hT n z, ByteArray.empty, true) rfl HST.out.cx) rfl HFIN.out
        · have h5 : oV n z = 1 := by omega
          rw [h5] at HNUM
          have HE3 := Lib.hid h5
          clear h3 h4 h5
          go_wp2_with fail
          refine HNUM.out.mono ?_
          rintro e w2 ⟨rfl, x2, hi2, ho2, k2⟩
          have HLB2 := Lib.hid (ibytes_g hi2 (by unfold oN2 oN1; omega))
          have HK2 := Lib.hid k2
          have HO2 := Lib.hid ho2
          have hB1 : B < w1.heap.size := by have := HK1.out.size; have := HSZ.out; have := HB.out; omega
          have HB1 := Lib.hid hB1
          clear k2 ho2 hi2 HNUM hB1
          by_cases h6 : hE (oN2 n z) (oZ2 n z) = 0
          case neg =>
            have e1 : ¬ ((hE (oN2 n z) (oZ2 n z) : Nat) : Int) = 0 := by omega
            have HO4 := Lib.hid (oe_4 HE1.out HE2.out HE3.out)
            have HN4 := Lib.hid h6
            obtain ⟨q, hq⟩ : ∃ q, q = hE (oN2 n z) (oZ2 n z) := ⟨_, rfl⟩
            rw [← hq] at HLB2 e1 HO4 HN4
            clear h6 hq
            go_wp2_with fail
            refine HLB2.out.mono ?_
            rintro e w3 ⟨y3, rfl, _, _, _, _, k3⟩
            have k3' := (HK1.out.trans HK2.out).trans k3
            obtain ⟨w4, hs⟩ := cell_st (B := B) HZ.out k3' (fun e => by have := HB.out; omega) ch0
            have HST := Lib.hid hs
            have HFIN := Lib.hid (read_bad (x := x) (c := ch0) HO4.out HN4.out (ch_cell HZ.out k3' hs))
            clear k3 k3' hs HLB2
            go_wp2_with (first
              | ((with_reducible refine wpList_isOp (.store 44 (.tmp 2) (.tmp 42)) rfl ?_); refine wpList_storing _ w4 rfl 44 (.tmp 2) (.tmp 42) rfl (.agg (chC ch0)) ⟨H, 0, none⟩ rfl rfl (by exact HST.out.st) ?_)
              | fail)
            exact bodyPost_ret (v := .tuple #[.agg (chC ch0), .int .i64 (q : Int)]) (results_ch Try.results23 _ _ H ch0 rfl HST.out.cx) rfl HFIN.out
          case pos =>
            rw [h6] at HLB2
            have HE4 := Lib.hid h6
            clear h6
            go_wp2_with fail
            refine HLB2.out.mono ?_
            rintro e w3 ⟨y3, rfl, hcv3, x3, hi3, ho3, k3⟩
            have k3' := (HK1.out.trans HK2.out).trans k3
            have hcv := HCV.out w3 (fun i => i = B) (HK2.out.trans k3) (fun i e => Or.inl (by rw [e]; have := HSZ.out; have := HB.out; omega))
            have hcw := hcv3 w3 (fun i => i = B) (Ch.refl _ _) (fun i e => Or.inl (by rw [e]; have := HK2.out.size; have := HB1.out; omega))
            obtain ⟨w4, hs⟩ := cell_st (B := B) HZ.out k3' (fun e => by have := HB.out; omega) (hT n z, hT (oN2 n z) (oZ2 n z), false)
            have HST := Lib.hid hs
            obtain ⟨p1, p2, p3, p4⟩ := o1 HE1.out HE2.out HE3.out HE4.out
            have HFIN : Hid (ReadP B x n z w (.returned (.tuple #[.agg (chC (hT n z, hT (oN2 n z) (oZ2 n z), false)), .int .i64 0])) w4) := Lib.hid ⟨_, by rw [p1]; rfl, ch_cell HZ.out k3' hs, fun _ => ⟨p2.symm, x3, by
              rw [← p3, ← p4]
              exact in_st (w0 := w0) hi3 hs (by have := HB.out; omega) (ho3 _ (HO2.out _ (HO1.out _ HOX.out))), fun S hS => ho3 S (HO2.out S (HO1.out S hS))⟩⟩
            clear k3 k3' hs p1 p2 p3 p4 hi3 ho3 hcv3 HLB2 HCV
            go_wp2_with (first
              | ((with_reducible refine wpList_isOp (.store 44 (.tmp 2) (.tmp 48)) rfl ?_); refine wpList_storing _ w4 rfl 44 (.tmp 2) (.tmp 48) rfl (.agg (chC (hT n z, hT (oN2 n z) (oZ2 n z), false))) ⟨H, 0, none⟩ rfl rfl (by exact HST.out.st) ?_)
              | fail)
            exact bodyPost_ret (v := .tuple #[.agg (chC (hT n z, hT (oN2 n z) (oZ2 n z), false)), .int .i64 0]) (results_ch Try.results23 _ _ H (hT n z, hT (oN2 n z) (oZ2 n z), false) rfl HST.out.cx) rfl HFIN.out
#print axioms read_any
end Go.Proofs.Ytkpahhioiefcbaa
namespace Go.Proofs.Ytkpahhioiefcbaa
open Go.RowKit
set_option linter.unusedVariables false
set_option maxRecDepth 100000
set_option linter.unusedSimpArgs false

/-- How it stands behind some changes: X are told, x is left. -/
structure IcSt (V N : Nat) (Z : Nat → Nat) (w w1 wr : World) (i B : Nat) (x u : Value) (X : List ChV) (n : Nat) (z : Nat → Nat) : Prop where
  left : InIs wr B x n z
  off : Off (fun i => w1.heap.size ≤ i) x
  le : n ≤ 1048576
  out : FlO kdCh w1 wr u X
  len : X.length = i
  e : dE V N Z = dE (V - i) n z
  x : dX V N Z = X ++ dX (V - i) n z
  k : dN V N Z = dN (V - i) n z
  ch : Ch (fun _ => False) w wr
  sz : w1.heap.size ≤ wr.heap.size
theorem IcSt.bad {V N : Nat} {Z : Nat → Nat} {w w1 wr : World} {i B : Nat} {x u : Value} {X : List ChV} {n : Nat} {z : Nat → Nat} (h : IcSt V N Z w w1 wr i B x u X n z) (hi : i < V) (h0 : ¬ oE n z = 0) : dE V N Z = oE n z := by
  rw [h.e, d_bad hi h0]
theorem IcSt.next {V N : Nat} {Z : Nat → Nat} {w w1 wr w2 w5 W : World} {i B : Nat} {x x' u v : Value} {X : List ChV} {n : Nat} {z : Nat → Nat} (h : IcSt V N Z w w1 wr i B x u X n z) (hi : i < V) (h0 : oE n z = 0) (hB : w.heap.size ≤ B ∧ B < w1.heap.size)
    (k2 : Ch (fun i => i = B) wr w2) (hx : InIs w2 B x' (n - oK n z) (tl z (oK n z))) (ho : ∀ S, Off S x → Off S x') (k5 : Ch (fun _ => False) w2 w5) (k : Ch (fun i => u.ownBlock = some i) w5 W) (hv : FlO kdCh w1 W v (X ++ [oX n z])) : IcSt V N Z w w1 W (i + 1) B x' v (X ++ [oX n z]) (n - oK n z) (tl z (oK n z)) := by
  obtain ⟨d1, d2, d3⟩ := d_next (V := V) (z := z) (n := n) hi h0
  have hne : ∀ i, u.ownBlock = some i → w1.heap.size ≤ i := fun i e => (h.out.lo e).1
  refine ⟨(hx.gr k5).ch k (fun e => ?_) ((ho _ h.off).mono hne), ho _ h.off, by have := h.le; omega, hv, by rw [List.length_append, h.len]; rfl, by rw [h.e, d1], by rw [h.x, d2, List.append_assoc]; rfl, by rw [h.k, d3], ?_, ?_⟩
  · have := hne _ e; omega
  · exact ((h.ch.new (k2.mono fun i _ e => by rw [e]; exact hB.1)).trans k5).new (k.mono fun i _ e => Nat.le_trans (Nat.le_of_lt (Nat.lt_of_le_of_lt hB.1 hB.2)) (hne i e))
  · exact Nat.le_trans h.sz (Nat.le_trans k2.size (Nat.le_trans k5.size k.size))
theorem IcSt.row {V N : Nat} {Z : Nat → Nat} {w w1 wr w2 w5 : World} {i B : Nat} {x u : Value} {X : List ChV} {n : Nat} {z : Nat → Nat} (h : IcSt V N Z w w1 wr i B x u X n z) (hB : B < w1.heap.size) (k2 : Ch (fun i => i = B) wr w2) (k5 : Ch (fun _ => False) w2 w5) : FlO kdCh w1 w5 u X :=
  (h.out.ch k2 fun i e q => by have := (h.out.lo e).1; omega).gr k5
set_option maxHeartbeats 6400000 in
theorem bdec_any (A : Option Addr) (n C : Nat) (z : Nat → Nat) (w : World) (h : RowV w (.slice A n C) n z) (hn : n ≤ 1048576) : Calls Try.prog 8 #[.slice A n C] w (RDecP n z w) := by
  have HNI := Lib.hid (newIn_any A n C z w h hn)
  clear h
  go_enter Try.func8, Try.ntmps8
  go_wp2_with fail
  refine HNI.out.mono ?_
  rintro e w1 ⟨B, x, rfl, hi, hB, hc1⟩
  have hnum := inum_g hi
  have HB := Lib.hid (And.intro hB hi.box.lt)
  have HOX := Lib.hid hi.row.low
  have HC1 := Lib.hid hc1
  by_cases hg : gE n z = 0
  case neg =>
    have e1 : ¬ ((gE n z : Nat) : Int) = 0 := by omega
    have hd : decE n z = gE n z := by unfold decE; rw [if_neg hg]
    have HFB := Lib.hid (fun w' (k : Ch (fun _ => False) w w') => rdec_bad (n := n) (z := z) (E := (gE n z : Int)) (by rw [hd]; exact ⟨rfl, hg⟩) k)
    obtain ⟨q, hq⟩ : ∃ q, q = gE n z := ⟨_, rfl⟩
    obtain ⟨q2, hq2⟩ : ∃ q2, q2 = gV n z := ⟨_, rfl⟩
    rw [← hq] at hnum e1 HFB
    rw [← hq2] at hnum
    have HNUM := Lib.hid hnum
    clear hnum hi hB hc1 hg hd hq hq2 HNI
    go_wp2_with fail
    refine HNUM.out.mono ?_
    rintro e w2 ⟨rfl, _, _, _, k2⟩
    have HFIN := Lib.hid (HFB.out w2 (HC1.out.new (k2.mono fun i _ e => by rw [e]; exact HB.out.1)))
    clear k2 HFB HNUM
    go_wp2_with fail
    go_ret2
    exact HFIN.out
  case pos =>
    rw [hg] at hnum
    have HG := Lib.hid hg
    obtain ⟨V, hV⟩ : ∃ V, V = gV n z := ⟨_, rfl⟩
    rw [← hV] at hnum
    have V0 : (0 : Int) ≤ (V : Int) := Int.natCast_nonneg _
    have hVT : (V : Int) ≤ 9223372036854775807 := by have := (g_ok hg).2.2.2.1; rw [← hV] at this; unfold T63 at this; omega
    have HVV := Lib.hid hV
    have HNUM := Lib.hid hnum
    clear hnum hi hB hc1 hg hV HNI
    go_wp2_with fail
    refine HNUM.out.mono ?_
    rintro e w2 ⟨rfl, x2, hi2, ho2, k2⟩
    have hc2 := HC1.out.new (k2.mono fun i _ e => by rw [e]; exact HB.out.1)
    have HC2 := Lib.hid hc2
    have HI2 := Lib.hid (And.intro hi2 (ho2 _ HOX.out))
    have HS2 := Lib.hid k2.size
    clear k2 hi2 ho2 hc2 HNUM
    by_cases hbig : V ≤ 4096
    case neg =>
      have b1 : (4096 : Int) < (V : Int) := by omega
      have HFIN : Hid (RDecP n z w (.returned (.tuple #[.slice none 0 0, .int .i64 2])) w2) := Lib.hid (rdec_bad (by
        have : decE n z = 2 := by unfold decE; rw [if_pos HG.out, ← HVV.out, if_neg hbig]
        rw [this]; exact ⟨rfl, by omega⟩) HC2.out)
      clear hbig
      go_wp2_with fail
      go_ret2
      exact HFIN.out
    case pos =>
      have b1 : ¬ (4096 : Int) < (V : Int) := by omega
      have b2 : (V : Int) ≤ 4096 := by omega
      have HDB : Hid (¬ dE V (aN n z) (aZ n z) = 0 → ((dE V (aN n z) (aZ n z) : Nat) : Int) = (decE n z : Int) ∧ ¬ decE n z = 0) := Lib.hid fun h2 => by
        rw [HVV.out] at h2 ⊢
        have h3 := dec_bad HG.out (by rw [← HVV.out]; exact hbig) h2
        exact ⟨by omega, by omega⟩
      have HBG := Lib.hid hbig
      clear hbig hVT
      go_wp2_with fail
      go_loopw [7, 8, 9, 23] (fun u u8 u9 i wr => ∃ (j : Nat) (y : Value) (X : List ChV) (nn : Nat) (zz : Nat → Nat), j ≤ V ∧ i = .int .i64 (j : Int) ∧ Hid (IcSt V (aN n z) (aZ n z) w w1 wr j B y u X nn zz)) (fun u u8 u9 i _ => V - (intOf i).toNat)
      case atStart => exact ⟨0, x2, [], aN n z, aZ n z, Nat.zero_le _, rfl, Lib.hid ⟨HI2.out.1, HI2.out.2, by unfold aN; omega, FlO.start _ _ _, rfl, rfl, rfl, rfl, HC2.out, HS2.out⟩⟩
      case round =>
        obtain ⟨j, y, X, nn, zz, hj, rfl, HS⟩ := hrel
        have j0 : (0 : Int) ≤ (j : Int) := Int.natCast_nonneg _
        by_cases hlt : j < V
        · have j1 : (j : Int) < (V : Int) := by omega
          have HRD := Lib.hid (read_any HS.out.left HS.out.le)
          by_cases h0 : oE nn zz = 0
          case neg =>
            have e1 : ¬ ((oE nn zz : Nat) : Int) = 0 := by omega
            have HFB : Hid (∀ W, Ch (fun _ => False) w W → RDecP n z w (.returned (.tuple #[.slice none 0 0, .int .i64 (oE nn zz : Int)])) W) := Lib.hid fun W hW => rdec_bad (by
              have h1 := HS.out.bad hlt h0
              have := HDB.out (by rw [h1]; exact h0)
              rw [h1] at this
              exact this) hW
            unfold ReadP at HRD
            obtain ⟨q, hq⟩ : ∃ q, q = oE nn zz := ⟨_, rfl⟩
            rw [← hq] at HRD HFB e1
            have HCC := Lib.hid HS.out.ch
            clear h0 hq HS
            go_wp2_with fail
            refine HRD.out.mono ?_
            rintro e w3 ⟨c, rfl, k3, _⟩
            obtain ⟨w4, Hx, hz⟩ := zeC w3
            obtain ⟨w5, hs⟩ := stC (x := c) hz.cx
            have HFIN := Lib.hid (HFB.out w5 (((HCC.out.new (k3.mono fun i _ e => by rw [e]; exact HB.out.1)).trans hz.ch).new (hs.ch.mono fun i _ e => by rw [e, ← hz.sz]; have := HCC.out.size; have := k3.size; omega)))
            have HZ := Lib.hid hz
            have HST := Lib.hid hs
            clear k3 hz hs HFB HRD
            go_wp2_with (first
              | ((with_reducible refine wpList_isOp (.alloc 44) rfl ?_); refine wpList_making _ w4 rfl 44 rfl (chC ch0) Hx (zero_ch _) (by exact HZ.out.sz) (by exact HZ.out.al) ?_)
              | ((with_reducible refine wpList_isOp (.store 44 (.tmp 8) (.tmp 28)) rfl ?_); refine wpList_storing _ w5 rfl 44 (.tmp 8) (.tmp 28) rfl (.agg (chC c)) ⟨Hx, 0, none⟩ rfl rfl (by exact HST.out.st) ?_)
              | fail)
            go_ret2
            exact HFIN.out
          case pos =>
            unfold ReadP at HRD
            rw [h0] at HRD
            have HO := Lib.hid h0
            clear h0
            go_wp2_with fail
            refine HRD.out.mono ?_
            rintro e w3 ⟨c, rfl, k3, hc⟩
            obtain ⟨rfl, y', hi3, ho3⟩ := hc trivial
            obtain ⟨w4, Hx, hz⟩ := zeC w3
            obtain ⟨w5, hs⟩ := stC (x := oX nn zz) hz.cx
            have HLD := Lib.hid (load_ch hs.cx)
            have k5 : Ch (fun _ => False) w3 w5 := hz.ch.new (hs.ch.mono fun i _ e => by rw [e, ← hz.sz]; exact Nat.le_refl _)
            have hrow := HS.out.row HB.out.2 k3 k5
            obtain ⟨g, cap, W6, hr, hv, hk, _⟩ := FlO.app kdCh_ok (x := oX nn zz) hrow (by rw [HS.out.len]; have := HBG.out; omega) (by have := HS.out.sz; have := k3.size; have := k5.size; omega)
            have hsl := fl_slice kdCh_ok w5 (oX nn zz)
            have HS2 := Lib.hid (HS.out.next hlt HO.out HB.out k3 hi3 ho3 k5 hk hv)
            have HZ := Lib.hid hz
            have HST := Lib.hid hs
            have HR := Lib.hid hr
            have HSL := Lib.hid hsl
            obtain ⟨M, hM⟩ : ∃ M, M = X.length + 1 := ⟨_, rfl⟩
            rw [← hM] at HR HS2
            clear hc k3 hi3 ho3 hz hs k5 hrow hr hv hk hsl hM HRD HS
            go_wp2_with (first
              | ((with_reducible refine wpList_isOp (.alloc 44) rfl ?_); refine wpList_making _ w4 rfl 44 rfl (chC ch0) Hx (zero_ch _) (by exact HZ.out.sz) (by exact HZ.out.al) ?_)
              | ((with_reducible refine wpList_isOp (.store 44 (.tmp 8) (.tmp 28)) rfl ?_); refine wpList_storing _ w5 rfl 44 (.tmp 8) (.tmp 28) rfl (.agg (chC (oX nn zz))) ⟨Hx, 0, none⟩ rfl rfl (by exact HST.out.st) ?_)
              | ((with_reducible refine wpList_isOp (.load 44 (.tmp 8)) rfl ?_); refine wpList_loading _ rfl 44 (.tmp 8) rfl (.agg (chC (oX nn zz))) ⟨Hx, 0, none⟩ rfl (by exact HLD.out) ?_)
              | ((with_reducible refine wpList_isOp (.buildSlice 24 1 #[(0, .tmp 34)]) rfl ?_); refine wpList_sliceF _ _ rfl 24 0 1 (.tmp 34) rfl (.agg (chC (oX nn zz))) _ rfl (by exact HSL.out) ?_)
              | (at_builtin; refine wpList_appF 24 _ rfl (.tmp 33) (.tmp 35) rfl rfl _ _ (.slice (some ⟨g, 0, none⟩) M cap) W6 rfl rfl (by exact HR.out) ?_)
              | fail)
            go_roundw
            case rel => exact ⟨j + 1, y', _, _, _, by omega, by go_num, HS2⟩
            case measure => simp [intOf]; omega
        · have hje : j = V := by omega
          have j1 : ¬ (j : Int) < (V : Int) := by omega
          have HLF := Lib.hid (left_any B nn y zz wr HS.out.left)
          have he : dE V (aN n z) (aZ n z) = 0 := by rw [HS.out.e, hje, Nat.sub_self]; rfl
          have hk : dN V (aN n z) (aZ n z) = nn := by rw [HS.out.k, hje, Nat.sub_self]; rfl
          have hx : dX V (aN n z) (aZ n z) = X := by rw [HS.out.x, hje, Nat.sub_self]; exact List.append_nil _
          have n0 : (0 : Int) ≤ (nn : Int) := Int.natCast_nonneg _
          by_cases h0 : nn = 0
          · have hd : decE n z = 0 := by
              unfold decE
              rw [if_pos HG.out, ← HVV.out, if_pos HBG.out, he, hk, h0]
              rfl
            have hdx : decX n z = X := by unfold decX; rw [if_pos hd, ← HVV.out]; exact hx
            have HFIN : Hid (RDecP n z w (.returned (.tuple #[u7, .int .i64 0])) wr) := Lib.hid ⟨_, by rw [hd]; rfl, by rw [hdx]; exact HS.out.out.low HC1.out.size, HS.out.ch⟩
            have z1 : ¬ (0 : Int) < (nn : Int) := by omega
            clear he hk hx h0 hd hdx HS hje
            go_wp2_with fail
            refine HLF.out.mono ?_
            rintro e w9 ⟨rfl, rfl⟩
            clear HLF
            go_wp2_with fail
            go_ret2
            exact HFIN.out
          · have hd : decE n z = 7 := by
              unfold decE
              rw [if_pos HG.out, ← HVV.out, if_pos HBG.out, he, hk, if_pos rfl, if_neg h0]
            have HFIN : Hid (RDecP n z w (.returned (.tuple #[.slice none 0 0, .int .i64 7])) wr) := Lib.hid (rdec_bad (by rw [hd]; exact ⟨rfl, by omega⟩) HS.out.ch)
            have z1 : (0 : Int) < (nn : Int) := by omega
            clear he hk hx h0 hd HS hje
            go_wp2_with fail
            refine HLF.out.mono ?_
            rintro e w9 ⟨rfl, rfl⟩
            clear HLF
            go_wp2_with fail
            go_ret2
            exact HFIN.out
#print axioms bdec_any
end Go.Proofs.Ytkpahhioiefcbaa
namespace Go.Proofs.Ytkpahhioiefcbaa
open Go.RowKit
set_option linter.unusedVariables false
set_option maxRecDepth 100000
set_option linter.unusedSimpArgs false

theorem put_last {L : List Kv} {k v : ByteArray} (h : ∀ x ∈ L, kLt x.1 k = true) : putL13 L k v = L ++ [(k, v)] := by
  unfold putL13
  rw [List.filter_eq_self.2 h, List.filter_eq_nil_iff.2 fun x hx => by rw [kLt_asymm (h x hx)]; exact Bool.false_ne_true]
theorem app_fill : ∀ (M T : List Kv), Rise (T ++ M) → appP T (M.map chK) = T ++ M
  | [], T, _ => (List.append_nil T).symm
  | p :: M, T, h => by
    have h1 := (rise_app.1 h).2.2
    have e : appP T ((p :: M).map chK) = appP (putL13 T p.1 p.2) (M.map chK) := rfl
    rw [e, put_last fun x hx => h1 x hx p (by simp)]
    have h2 : T ++ p :: M = (T ++ [(p.1, p.2)]) ++ M := by rw [List.append_assoc]; rfl
    rw [h2] at h ⊢
    exact app_fill M _ h
theorem app_filled {L : List ChV} (h : fillP L) : appP [] L = L.map prC := by
  have := app_fill (L.map prC) [] h.2
  rw [fill_ch h] at this
  exact this
theorem fill_bad1 {n : Nat} {z : Nat → Nat} {w w' : World} (h : ¬ decE n z = 0) (k : Ch (fun _ => False) w w') : FillPost n z w (.returned (.tuple #[.pointer none, .int .i64 (decE n z : Int)])) w' :=
  ⟨none, _, rfl, k, fun _ => ⟨rfl, rfl⟩, fun q => absurd q h, fun q => absurd q h⟩
theorem fill_bad2 {n : Nat} {z : Nat → Nat} {w w' : World} (h : decE n z = 0) (h2 : ¬ fillP (decX n z)) (k : Ch (fun _ => False) w w') : FillPost n z w (.returned (.tuple #[.pointer none, .int .i64 7])) w' :=
  ⟨none, _, rfl, k, fun q => absurd h q, fun _ _ => ⟨rfl, rfl⟩, fun _ q => absurd q h2⟩
set_option maxHeartbeats 3200000 in
theorem bfill_any (A : Option Addr) (n C : Nat) (z : Nat → Nat) (w : World) (h : RowV w (.slice A n C) n z) (hn : n ≤ 1048576) : Calls Try.prog 11 #[.slice A n C] w (FillPost n z w) := by
  have HDEC := Lib.hid (bdec_any A n C z w h hn)
  unfold RDecP at HDEC
  by_cases hd : decE n z = 0
  case neg =>
    have e1 : ¬ ((decE n z : Nat) : Int) = 0 := by omega
    have HFB := Lib.hid (fun w' (k : Ch (fun _ => False) w w') => fill_bad1 hd k)
    obtain ⟨q, hq⟩ : ∃ q, q = decE n z := ⟨_, rfl⟩
    rw [← hq] at HDEC HFB e1
    clear h hn hd hq
    go_enter Try.func11, Try.ntmps11
    go_wp2_with fail
    refine HDEC.out.mono ?_
    rintro e w1 ⟨v, rfl, _, k1⟩
    have HFIN := Lib.hid (HFB.out w1 k1)
    clear k1 HFB HDEC
    go_wp2_with fail
    go_ret2
    exact HFIN.out
  case pos =>
    rw [hd] at HDEC
    have HD := Lib.hid hd
    obtain ⟨h1, h2, h3, h4, h5⟩ := dec_ok hd
    have hlen : (decX n z).length ≤ 4096 := by rw [h5, dX_len]; exact h2
    have HLEN := Lib.hid hlen
    clear h hn hd h1 h2 h3 h4 h5 hlen
    go_enter Try.func11, Try.ntmps11
    go_wp2_with fail
    refine HDEC.out.mono ?_
    rintro e w1 ⟨v, rfl, ho, k1⟩
    obtain ⟨A1, C1, rfl⟩ := ho.len
    have hv := ho.read kdCh_ok (by have := HLEN.out; omega)
    have hdu := dumped_any A1 C1 (decX n z) w1 hv (by have := HLEN.out; omega)
    obtain ⟨M, hM⟩ : ∃ M, M = (decX n z).length := ⟨_, rfl⟩
    rw [← hM] at hdu ⊢
    have HM := Lib.hid hM
    have HV := Lib.hid hv
    have HK1 := Lib.hid k1
    by_cases hf : fillP (decX n z)
    case neg =>
      rw [fill_no hf] at hdu
      have HDU := Lib.hid hdu
      have HFB := Lib.hid (fun w' (k : Ch (fun _ => False) w w') => fill_bad2 HD.out hf k)
      clear ho hv hdu hM k1 hf HDEC
      go_wp2_with fail
      refine HDU.out.mono ?_
      rintro e w2 ⟨rfl, k2⟩
      have HFIN := Lib.hid (HFB.out w2 (HK1.out.trans k2))
      clear k2 HFB HDU
      go_wp2_with fail
      go_ret2
      exact HFIN.out
    case pos =>
      rw [fill_yes hf] at hdu
      have HDU := Lib.hid hdu
      have HF := Lib.hid hf
      clear ho hv hdu hM k1 hf HDEC
      go_wp2_with fail
      refine HDU.out.mono ?_
      rintro e w2 ⟨rfl, k2⟩
      obtain ⟨w4, hw4⟩ : ∃ w4, w4 = w2.alloc (.cells #[.pointer none, .int .i64 0] 38) := ⟨_, rfl⟩
      obtain ⟨t, ht⟩ : ∃ t, t = w2.heap.size := ⟨_, rfl⟩
      have hc4 : Ch (fun _ => False) w2 w4 := by rw [hw4]; exact (Ch.refl _ w2).alloc _ _
      have hb : w4.heap[t]? = some (.cells #[.pointer none, .int .i64 0] 38 (0, 0)) := by rw [hw4, ht]; exact heap_alloc_new _ _
      have hwt : w1.heap.size ≤ t := by rw [ht]; exact k2.size
      have hap := bapply_any A1 C1 (decX n z) t 0 [] w4 (TreeIs.new w4 t hb) (HV.out.gr (k2.trans hc4)) (HV.out.apart hwt) (by have := HLEN.out; omega) (by simp)
      rw [← HM.out] at hap
      have HAP := Lib.hid hap
      have HT := Lib.hid (show w.heap.size ≤ t from Nat.le_trans HK1.out.size hwt)
      have HC4 := Lib.hid (HK1.out.trans (k2.trans hc4))
      clear hb hap hwt hc4 k2 HDU
      go_upto_region 7 with fail
      rw [← ht, ← hw4]
      clear ht hw4
      go_wp2_with fail
      refine HAP.out.mono ?_
      rintro e w5 ⟨h5, rfl, T5, c5⟩
      rw [app_filled HF.out] at T5
      have HFIN : Hid (FillPost n z w (.returned (.tuple #[.pointer (some ⟨t, 0, none⟩), .int .i64 0])) w5) := Lib.hid ⟨some t, 0, rfl, HC4.out.new (c5.mono fun i _ e => by rw [e]; exact HT.out), fun q => absurd HD.out q, fun _ q => absurd HF.out q, fun _ _ => ⟨rfl, t, h5, rfl, HT.out, T5⟩⟩
      clear T5 c5 HAP
      go_wp2_with fail
      go_ret2
      exact HFIN.out
#print axioms bfill_any
end Go.Proofs.Ytkpahhioiefcbaa
