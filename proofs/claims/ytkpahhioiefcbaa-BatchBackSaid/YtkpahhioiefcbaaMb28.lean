/-
  batch: the document's Decode, walked. Bytes that are written out in the program (a row of consts in new memory), read.
-/
import Derived.Test.YtkpahhioiefcbaaMb27
import Derived.Deep.MidRow
import Derived.Test.YtkpahhioiefcbaaMb1
namespace Go.Proofs.Ytkpahhioiefcbaa
open Go.RowKit
set_option linter.unusedVariables false
set_option maxRecDepth 100000
set_option linter.unusedSimpArgs false

/-! ### a change in a variable -/
def chC (x : ChV) : Array Value := #[.string x.1, .string x.2.1, .bool x.2.2]
def ch0 : ChV := (ByteArray.empty, ByteArray.empty, false)
theorem info_ch (x : ChV) : (Try.prog.info? 44).map (·.size) = some (chC x).size := by
  show _ = some 3
  kernel_rfl
theorem zero_ch (w : World) : (zeroValue 44).run Try.prog w = .ok (.agg (chC ch0)) w := Try.zeroValue44 w
structure ZeC (w w1 : World) (H : Nat) : Prop where
  al : w.alloc (.cells (chC ch0) 44) = w1
  sz : w.heap.size = H
  cx : w1.heap[H]? = some (.cells (chC ch0) 44 (0, 0))
  ch : Ch (fun _ => False) w w1
theorem zeC (w : World) : ∃ w1 H, ZeC w w1 H := ⟨_, _, rfl, rfl, heap_alloc_new w _, (Ch.refl _ w).alloc _ _⟩
structure StC (w w1 : World) (H : Nat) (x : ChV) : Prop where
  st : (storeVar 44 ⟨H, 0, none⟩ (.agg (chC x))).run Try.prog w = .ok () w1
  cx : w1.heap[H]? = some (.cells (chC x) 44 (0, 0))
  ch : Ch (fun j => j = H) w w1
theorem stC {w : World} {H : Nat} {a x : ChV} (h : w.heap[H]? = some (.cells (chC a) 44 (0, 0))) : ∃ w1, StC w w1 H x :=
  ⟨_, run_storeVar_row w H _ _ (chC a) (chC x) h (info_ch x) rfl (by simp [chC, Value.oneCell']), setRow_heap w H (chC a) _ _ (0, 0) h, (Ch.refl (fun j => j = H) w).setRow (g := H) (Or.inl rfl) _⟩
theorem load_ch {w : World} {H : Nat} {x : ChV} (h : w.heap[H]? = some (.cells (chC x) 44 (0, 0))) : (loadVar 44 ⟨H, 0, none⟩).run Try.prog w = .ok (.agg (chC x)) w := by
  have hv : FlV kdCh w (some ⟨H, 0, none⟩) 1 [x] := ⟨by simp, by simp, fun _ => ⟨H, 0, rfl, fun i y hy j u hu => by
    cases i with
    | zero =>
      have hy : x = y := by simpa using hy
      subst hy
      rw [blk_cell h, Nat.zero_mul, Nat.zero_add]
      show (kdCh.f x).toArray[j]? = _
      rw [List.getElem?_toArray]
      exact hu
    | succ i => simp at hy⟩⟩
  exact hv.load kdCh_ok (i := 0) rfl (Try.underlying44) rfl
#print axioms load_ch
/-! ### what is left -/
structure LfR (w0 w : World) (y : Value) (n : Nat) (z : Nat → Nat) : Prop where
  row : RowV w y n z
  nn : NN y
  off : Off (fun i => w0.heap.size ≤ i) y
  le : n ≤ 1048576
theorem LfR.gr {w0 w w' : World} {y : Value} {n : Nat} {z : Nat → Nat} (h : LfR w0 w y n z) (k : Ch (fun _ => False) w w') : LfR w0 w' y n z := ⟨h.row.gr k, h.nn, h.off, h.le⟩
theorem LfR.new {S : Nat → Prop} {w0 w w' : World} {y : Value} {n : Nat} {z : Nat → Nat} (h : LfR w0 w y n z) (k : Ch S w w') (hS : ∀ i, S i → w0.heap.size ≤ i) : LfR w0 w' y n z := ⟨h.row.off k (h.off.mono hS), h.nn, h.off, h.le⟩
theorem LfR.sl {w0 w : World} {y : Value} {n : Nat} {z : Nat → Nat} (h : LfR w0 w y n z) : ∃ A C, y = .slice A n C := by
  obtain ⟨A, C, e, _⟩ := h.row
  exact ⟨A, C, e⟩
theorem nn_of {w : World} {A : Option Addr} {n C : Nat} {z : Nat → Nat} (h : RowV w (.slice A n C) n z) (h0 : 0 < n) : NN (.slice A n C) := by
  obtain ⟨A1, C1, e, _, h3⟩ := h
  injection e with e1 _ e2
  subst e1 e2
  obtain ⟨b, o, rfl, _⟩ := h3 h0
  exact nn_some b o n C
theorem lnum {w0 w : World} {y : Value} {n : Nat} {z : Nat → Nat} (h : LfR w0 w y n z) : Calls Try.prog 25 #[y] w fun e w' => ∃ y', e = .returned (.tuple #[.int .i64 (gV n z : Int), y', .int .i64 (gE n z : Int)]) ∧ LfR w0 w' y' (n - gK n z) (tl z (gK n z)) ∧ Ch (fun _ => False) w w' := by
  obtain ⟨A, C, rfl⟩ := h.sl
  refine (rgetnum_any A n C z (rK n z) (rE n z) w h.row h.nn (rd_rk n z)).mono ?_
  rintro e w' ⟨y', d, rfl, rfl, h1, h2, h3⟩
  exact ⟨y', rfl, ⟨h1, h2, h3 _ h.off, by have := h.le; omega⟩, (Ch.refl _ w).drewN d⟩
theorem lbytes {w0 w : World} {y : Value} {n : Nat} {z : Nat → Nat} (h : LfR w0 w y n z) : Calls Try.prog 26 #[y] w fun e w' => ∃ v y', e = .returned (.tuple #[v, y', .int .i64 (hE n z : Int)]) ∧ (∀ W, Ch (fun _ => False) w' W → (convert /-t-/22 /-t-/9 v).run Try.prog W = .ok (.string (hT n z)) W) ∧ LfR w0 w' y' (n - hK n z) (tl z (hK n z)) ∧ Ch (fun _ => False) w w' := by
  obtain ⟨A, C, rfl⟩ := h.sl
  refine (rgetbytes_any A n C z (rK n z) (rE n z) w h.row h.nn (rd_rk n z) h.le).mono ?_
  rintro e w' ⟨v, y', rfl, h1, h2, h3, h4, h5⟩
  exact ⟨v, y', rfl, fun W hW => row_text (h1.row.gr hW), ⟨h2, h3, h4 _ h.off, by have := h.le; omega⟩, h5⟩
#print axioms lbytes
/-! ### so many -/
/-- How it stands behind some changes: X are told, y is left. -/
structure DcSt (V N : Nat) (Z : Nat → Nat) (w wr : World) (i : Nat) (y u : Value) (X : List ChV) (n : Nat) (z : Nat → Nat) : Prop where
  left : LfR w wr y n z
  out : FlO kdCh w wr u X
  len : X.length = i
  e : dE V N Z = dE (V - i) n z
  x : dX V N Z = X ++ dX (V - i) n z
  k : dN V N Z = dN (V - i) n z
  ch : Ch (fun _ => False) w wr
theorem d_bad {V i n : Nat} {z : Nat → Nat} (hi : i < V) (h : ¬ oE n z = 0) : dE (V - i) n z = oE n z := by
  rw [show V - i = (V - (i + 1)) + 1 by omega]
  show (if oE n z = 0 then _ else _) = _
  rw [if_neg h]
theorem d_next {V i n : Nat} {z : Nat → Nat} (hi : i < V) (h : oE n z = 0) : dE (V - i) n z = dE (V - (i + 1)) (n - oK n z) (tl z (oK n z)) ∧ dX (V - i) n z = oX n z :: dX (V - (i + 1)) (n - oK n z) (tl z (oK n z)) ∧ dN (V - i) n z = dN (V - (i + 1)) (n - oK n z) (tl z (oK n z)) := by
  rw [show V - i = (V - (i + 1)) + 1 by omega]
  refine ⟨?_, rfl, rfl⟩
  show (if oE n z = 0 then _ else _) = _
  rw [if_pos h]
theorem o0 {n : Nat} {z : Nat → Nat} (h1 : hE n z = 0) (h2 : gE (oN1 n z) (oZ1 n z) = 0) (h3 : oV n z = 0) : oE n z = 0 ∧ oX n z = (hT n z, ByteArray.empty, true) ∧ oN2 n z = n - oK n z ∧ oZ2 n z = tl z (oK n z) := by
  refine ⟨?_, ?_, ?_, ?_⟩
  · unfold oE; rw [if_pos h1, if_pos h2, h3]; rfl
  · unfold oX; rw [h3]; rfl
  · unfold oK
    rw [if_neg (by omega)]
    show n - hK n z - gK (oN1 n z) (oZ1 n z) = _
    omega
  · unfold oZ2 oZ1 oK; rw [if_neg (by omega), tl_tl]; rfl
theorem o1 {n : Nat} {z : Nat → Nat} (h1 : hE n z = 0) (h2 : gE (oN1 n z) (oZ1 n z) = 0) (h3 : oV n z = 1) (h4 : hE (oN2 n z) (oZ2 n z) = 0) : oE n z = 0 ∧ oX n z = (hT n z, hT (oN2 n z) (oZ2 n z), false) ∧ oN2 n z - hK (oN2 n z) (oZ2 n z) = n - oK n z ∧ tl (oZ2 n z) (hK (oN2 n z) (oZ2 n z)) = tl z (oK n z) := by
  refine ⟨?_, ?_, ?_, ?_⟩
  · unfold oE; rw [if_pos h1, if_pos h2, h3, if_pos (by omega), if_pos rfl]; exact h4
  · unfold oX; rw [h3]; rfl
  · unfold oK
    rw [if_pos h3]
    show n - hK n z - gK (oN1 n z) (oZ1 n z) - _ = _
    omega
  · unfold oK
    rw [if_pos h3]
    show tl (tl (tl z (hK n z)) (gK (oN1 n z) (oZ1 n z))) _ = _
    rw [tl_tl, tl_tl]
theorem oe_1 {n : Nat} {z : Nat → Nat} (h1 : ¬ hE n z = 0) : oE n z = hE n z := by unfold oE; rw [if_neg h1]
theorem oe_2 {n : Nat} {z : Nat → Nat} (h1 : hE n z = 0) (h2 : ¬ gE (oN1 n z) (oZ1 n z) = 0) : oE n z = gE (oN1 n z) (oZ1 n z) := by unfold oE; rw [if_pos h1, if_neg h2]
theorem oe_3 {n : Nat} {z : Nat → Nat} (h1 : hE n z = 0) (h2 : gE (oN1 n z) (oZ1 n z) = 0) (h3 : ¬ oV n z ≤ 1) : oE n z = 7 := by unfold oE; rw [if_pos h1, if_pos h2, if_neg h3]
theorem oe_4 {n : Nat} {z : Nat → Nat} (h1 : hE n z = 0) (h2 : gE (oN1 n z) (oZ1 n z) = 0) (h3 : oV n z = 1) : oE n z = hE (oN2 n z) (oZ2 n z) := by unfold oE; rw [if_pos h1, if_pos h2, h3, if_pos (by omega), if_pos rfl]
theorem DcSt.bad {V N : Nat} {Z : Nat → Nat} {w wr : World} {i : Nat} {y u : Value} {X : List ChV} {n : Nat} {z : Nat → Nat} (h : DcSt V N Z w wr i y u X n z) (hi : i < V) {E : Nat} (hE : oE n z = E) (h0 : ¬ E = 0) : dE V N Z = E ∧ ¬ dE V N Z = 0 := by
  have h1 : dE V N Z = E := by rw [h.e, d_bad hi (by omega)]; exact hE
  exact ⟨h1, by omega⟩
theorem dec_bad {n : Nat} {z : Nat → Nat} (h1 : gE n z = 0) (h2 : gV n z ≤ 4096) (h : ¬ dE (gV n z) (aN n z) (aZ n z) = 0) : decE n z = dE (gV n z) (aN n z) (aZ n z) := by unfold decE; rw [if_pos h1, if_pos h2, if_neg h]
/-- What Decode answers. -/
def RDecP (n : Nat) (z : Nat → Nat) (w : World) (e : Ending) (w' : World) : Prop := ∃ v, e = .returned (.tuple #[v, .int .i64 (decE n z : Int)]) ∧ FlO kdCh w w' v (decX n z) ∧ Ch (fun _ => False) w w'
theorem rdec_bad {n : Nat} {z : Nat → Nat} {w w' : World} {E : Int} (h : E = (decE n z : Int) ∧ ¬ decE n z = 0) (k : Ch (fun _ => False) w w') : RDecP n z w (.returned (.tuple #[.slice none 0 0, .int .i64 E])) w' := by
  refine ⟨_, by rw [h.1], ?_, k⟩
  have : decX n z = [] := by unfold decX; rw [if_neg h.2]
  rw [this]
  exact FlO.start _ _ _
set_option maxHeartbeats 6400000 in
theorem rdec_yes (y0 : Value) (n : Nat) (z : Nat → Nat) (w : World) (h : LfR w w y0 n z) (hg : gE n z = 0) : Calls Try.prog 9 #[y0] w (RDecP n z w) := by
  have HNUM := Lib.hid (lnum h)
  rw [hg] at HNUM
  obtain ⟨V, hV⟩ : ∃ V, V = gV n z := ⟨_, rfl⟩
  have V0 : (0 : Int) ≤ (V : Int) := Int.natCast_nonneg _
  have HN4 : Hid (n ≤ 1048576) := Lib.hid h.le
  rw [← hV] at HNUM
  have HVV := Lib.hid hV
  have HG := Lib.hid hg
  have hVT : (V : Int) ≤ 9223372036854775807 := by have := (g_ok hg).2.2.2.1; rw [← hV] at this; unfold T63 at this; omega
  clear h hg hV
  go_enter Try.func9, Try.ntmps9
  go_wp2_with fail
  refine HNUM.out.mono ?_
  rintro e w1 ⟨y1, rfl, hl1, hc1⟩
  have HL1 := Lib.hid hl1
  have HC1 := Lib.hid hc1
  clear hl1 hc1 HNUM
  by_cases hbig : V ≤ 4096
  case neg =>
    have b1 : (4096 : Int) < (V : Int) := by omega
    have HFIN : Hid (RDecP n z w (.returned (.tuple #[.slice none 0 0, .int .i64 2])) w1) := Lib.hid (rdec_bad (by
      have : decE n z = 2 := by unfold decE; rw [if_pos HG.out, ← HVV.out, if_neg hbig]
      rw [this]; exact ⟨rfl, by omega⟩) HC1.out)
    clear hbig
    go_wp2_with fail
    go_ret2
    exact HFIN.out
  case pos =>
    have b1 : ¬ (4096 : Int) < (V : Int) := by omega
    have b2 : (V : Int) ≤ 4096 := by omega
    have HDB : Hid (∀ E : Nat, dE V (aN n z) (aZ n z) = E → ¬ dE V (aN n z) (aZ n z) = 0 → ((E : Int) = (decE n z : Int) ∧ ¬ decE n z = 0)) := Lib.hid fun E h1 h2 => by
      rw [HVV.out] at h1 h2
      have h3 := dec_bad HG.out (by rw [← HVV.out]; exact hbig) h2
      exact ⟨by omega, by omega⟩
    have HB := Lib.hid hbig
    clear hbig hVT
    go_wp2_with fail
    go_loopw [5, 7, 8] (fun y u i wr => ∃ (j : Nat) (X : List ChV) (nn : Nat) (zz : Nat → Nat), j ≤ V ∧ i = .int .i64 (j : Int) ∧ Hid (DcSt V (aN n z) (aZ n z) w wr j y u X nn zz)) (fun y u i _ => V - (intOf i).toNat)
    case atStart => exact ⟨0, [], aN n z, aZ n z, Nat.zero_le _, rfl, Lib.hid ⟨HL1.out, FlO.start _ _ _, rfl, rfl, rfl, rfl, HC1.out⟩⟩
    case round =>
      obtain ⟨j, X, nn, zz, hj, rfl, HS⟩ := hrel
      have j0 : (0 : Int) ≤ (j : Int) := Int.natCast_nonneg _
      by_cases hlt : j < V
      · have j1 : (j : Int) < (V : Int) := by omega
        have HLB := Lib.hid (lbytes HS.out.left)
        have H1 : Hid (∀ W, Ch (fun _ => False) wr W → ∀ E : Nat, oE nn zz = E → ¬ E = 0 → RDecP n z w (.returned (.tuple #[.slice none 0 0, .int .i64 (E : Int)])) W) := Lib.hid fun W hW E h1 h2 => rdec_bad (by
          obtain ⟨h3, h4⟩ := HS.out.bad hlt h1 h2
          exact HDB.out E h3 h4) (HS.out.ch.trans hW)
        by_cases h1 : hE nn zz = 0
        case neg =>
          have e1 : ¬ ((hE nn zz : Nat) : Int) = 0 := by omega
          have HFB := Lib.hid (fun W (hW : Ch (fun _ => False) wr W) => H1.out W hW _ (oe_1 h1) h1)
          obtain ⟨q, hq⟩ : ∃ q, q = hE nn zz := ⟨_, rfl⟩
          rw [← hq] at HLB HFB e1
          clear h1 hq H1 HS
          go_wp2_with fail
          refine HLB.out.mono ?_
          rintro e w2 ⟨v, y2, rfl, hcv, hl2, hc2⟩
          have HFIN := Lib.hid (HFB.out w2 hc2)
          clear hcv hl2 hc2 HFB HLB
          go_wp2_with fail
          go_ret2
          exact HFIN.out
        case pos =>
          rw [h1] at HLB
          have HE1 := Lib.hid h1
          clear h1
          go_wp2_with fail
          refine HLB.out.mono ?_
          rintro e w2 ⟨v, y2, rfl, hcv, hl2, hc2⟩
          have HLN := Lib.hid (lnum hl2)
          have HCV := Lib.hid hcv
          have HC2 := Lib.hid hc2
          have e2 : gE (nn - hK nn zz) (tl zz (hK nn zz)) = gE (oN1 nn zz) (oZ1 nn zz) := rfl
          have e3 : gV (nn - hK nn zz) (tl zz (hK nn zz)) = oV nn zz := rfl
          have e4 : nn - hK nn zz - gK (nn - hK nn zz) (tl zz (hK nn zz)) = oN2 nn zz := rfl
          have e5 : tl (tl zz (hK nn zz)) (gK (nn - hK nn zz) (tl zz (hK nn zz))) = oZ2 nn zz := rfl
          rw [e2, e3, e4, e5] at HLN
          clear e2 e3 e4 e5 hcv hl2 hc2 HLB
          by_cases h2 : gE (oN1 nn zz) (oZ1 nn zz) = 0
          case neg =>
            have e1 : ¬ ((gE (oN1 nn zz) (oZ1 nn zz) : Nat) : Int) = 0 := by omega
            have HFB := Lib.hid (fun W (hW : Ch (fun _ => False) wr W) => H1.out W hW _ (oe_2 HE1.out h2) h2)
            obtain ⟨q, hq⟩ : ∃ q, q = gE (oN1 nn zz) (oZ1 nn zz) := ⟨_, rfl⟩
            obtain ⟨q2, hq2⟩ : ∃ q2, q2 = oV nn zz := ⟨_, rfl⟩
            rw [← hq] at HLN HFB e1
            rw [← hq2] at HLN
            clear h2 hq H1 HS hq2
            go_wp2_with fail
            refine HLN.out.mono ?_
            rintro e w3 ⟨y3, rfl, hl3, hc3⟩
            have HFIN := Lib.hid (HFB.out w3 (HC2.out.trans hc3))
            clear hl3 hc3 HFB HLN
            go_wp2_with fail
            go_ret2
            exact HFIN.out
          case pos =>
            rw [h2] at HLN
            have HE2 := Lib.hid h2
            clear h2
            by_cases h3 : oV nn zz ≤ 1
            case neg =>
              have HFB := Lib.hid (fun W (hW : Ch (fun _ => False) wr W) => H1.out W hW 7 (oe_3 HE1.out HE2.out h3) (by omega))
              obtain ⟨q2, hq2⟩ : ∃ q2, q2 = oV nn zz := ⟨_, rfl⟩
              rw [← hq2] at HLN h3
              have e1 : (1 : Int) < (q2 : Int) := by omega
              clear h3 H1 HS hq2
              go_wp2_with fail
              refine HLN.out.mono ?_
              rintro e w3 ⟨y3, rfl, hl3, hc3⟩
              have HFIN := Lib.hid (HFB.out w3 (HC2.out.trans hc3))
              clear hl3 hc3 HFB HLN
              go_wp2_with fail
              go_ret2
              exact HFIN.out
            case pos =>
              by_cases h4 : oV nn zz = 0
              · rw [h4] at HLN
                have HE3 := Lib.hid h4
                clear h3 h4 H1
                go_wp2_with fail
                refine HLN.out.mono ?_
                rintro e w3 ⟨y3, rfl, hl3, hc3⟩
                have hcv := HCV.out w3 hc3
                obtain ⟨w4, Hx, hz⟩ := zeC w3
                obtain ⟨w5, hs⟩ := stC (x := (hT nn zz, ByteArray.empty, true)) hz.cx
                have HLD := Lib.hid (load_ch hs.cx)
                have hc5 : Ch (fun _ => False) wr w5 := (HC2.out.trans (hc3.trans hz.ch)).new (hs.ch.mono fun i _ e => by rw [e, ← hz.sz]; exact (HC2.out.trans hc3).size)
                have hne : ∀ i, i = Hx → w.heap.size ≤ i := fun i e => by rw [e, ← hz.sz]; exact (HS.out.ch.trans (HC2.out.trans hc3)).size
                have hl5 := (hl3.gr hz.ch).new hs.ch hne
                obtain ⟨g, cap, W6, hr, ho, hk, _⟩ := FlO.app kdCh_ok (x := (hT nn zz, ByteArray.empty, true)) (HS.out.out.gr hc5) (by rw [HS.out.len]; have := HB.out; omega) (HS.out.ch.trans hc5).size
                have hsl := fl_slice kdCh_ok w5 (hT nn zz, ByteArray.empty, true)
                obtain ⟨p1, p2, p3, p4⟩ := o0 HE1.out HE2.out HE3.out
                obtain ⟨d1, d2, d3⟩ := d_next hlt p1
                have hown := HS.out.out.gr hc5
                have HS2 : Hid (DcSt V (aN n z) (aZ n z) w W6 (j + 1) y3 (.slice (some ⟨g, 0, none⟩) (X.length + 1) cap) (X ++ [oX nn zz]) (nn - oK nn zz) (tl zz (oK nn zz))) := Lib.hid ⟨by rw [← p3, ← p4]; exact hl5.new hk fun i e => (hown.lo e).1, by rw [p2]; exact ho, by rw [List.length_append, HS.out.len]; rfl, by rw [HS.out.e, d1], by rw [HS.out.x, d2, List.append_assoc]; rfl, by rw [HS.out.k, d3], (HS.out.ch.trans hc5).new (hk.mono fun i _ e => (hown.lo e).1)⟩
                have HZ := Lib.hid hz
                have HST := Lib.hid hs
                have HR := Lib.hid hr
                have HSL := Lib.hid hsl
                obtain ⟨M, hM⟩ : ∃ M, M = X.length + 1 := ⟨_, rfl⟩
                rw [← hM] at HR HS2
                clear hl3 hc3 hz hs hc5 hne hl5 hr ho hk hsl p1 p2 p3 p4 d1 d2 d3 hown hM HLN HS
                go_wp2_with (first
                  | ((with_reducible refine wpList_isOp (.alloc 44) rfl ?_); refine wpList_making _ w4 rfl 44 rfl (chC ch0) Hx (zero_ch _) (by exact HZ.out.sz) (by exact HZ.out.al) ?_)
                  | ((with_reducible refine wpList_isOp (.store 44 (.tmp 15) (.tmp 60)) rfl ?_); refine wpList_storing _ w5 rfl 44 (.tmp 15) (.tmp 60) rfl (.agg (chC (hT nn zz, ByteArray.empty, true))) ⟨Hx, 0, none⟩ rfl rfl (by exact HST.out.st) ?_)
                  | ((with_reducible refine wpList_isOp (.load 44 (.tmp 15)) rfl ?_); refine wpList_loading _ rfl 44 (.tmp 15) rfl (.agg (chC (hT nn zz, ByteArray.empty, true))) ⟨Hx, 0, none⟩ rfl (by exact HLD.out) ?_)
                  | ((with_reducible refine wpList_isOp (.buildSlice 24 1 #[(0, .tmp 77)]) rfl ?_); refine wpList_sliceF _ _ rfl 24 0 1 (.tmp 77) rfl (.agg (chC (hT nn zz, ByteArray.empty, true))) _ rfl (by exact HSL.out) ?_)
                  | (at_builtin; refine wpList_appF 24 _ rfl (.tmp 76) (.tmp 78) rfl rfl _ _ (.slice (some ⟨g, 0, none⟩) M cap) W6 rfl rfl (by exact HR.out) ?_)
                  | fail)
                go_roundw
                case rel => exact ⟨j + 1, _, _, _, by omega, by go_num, HS2⟩
                case measure => simp [intOf]; omega
              · have h5 : oV nn zz = 1 := by omega
                rw [h5] at HLN
                have HE3 := Lib.hid h5
                clear h3 h4 h5
                go_wp2_with fail
                refine HLN.out.mono ?_
                rintro e w3 ⟨y3, rfl, hl3, hc3⟩
                have hcv := HCV.out w3 hc3
                obtain ⟨w4, Hx, hz⟩ := zeC w3
                obtain ⟨w5, hs⟩ := stC (x := (hT nn zz, ByteArray.empty, false)) hz.cx
                have hc5 : Ch (fun _ => False) wr w5 := (HC2.out.trans (hc3.trans hz.ch)).new (hs.ch.mono fun i _ e => by rw [e, ← hz.sz]; exact (HC2.out.trans hc3).size)
                have hne : ∀ i, i = Hx → w.heap.size ≤ i := fun i e => by rw [e, ← hz.sz]; exact (HS.out.ch.trans (HC2.out.trans hc3)).size
                have hwr : wr.heap.size ≤ Hx := by rw [← hz.sz]; exact (HC2.out.trans hc3).size
                have hl5 := (hl3.gr hz.ch).new hs.ch hne
                have HLB2 := Lib.hid (lbytes hl5)
                have HZ := Lib.hid hz
                have HST := Lib.hid hs
                have HC5 := Lib.hid hc5
                have HNE := Lib.hid (And.intro hne hwr)
                clear hl3 hc3 hz hs hc5 hne hl5 HLN hwr
                by_cases h6 : hE (oN2 nn zz) (oZ2 nn zz) = 0
                case neg =>
                  have e1 : ¬ ((hE (oN2 nn zz) (oZ2 nn zz) : Nat) : Int) = 0 := by omega
                  have HFB := Lib.hid (fun W (hW : Ch (fun _ => False) wr W) => H1.out W hW _ (oe_4 HE1.out HE2.out HE3.out) h6)
                  obtain ⟨q, hq⟩ : ∃ q, q = hE (oN2 nn zz) (oZ2 nn zz) := ⟨_, rfl⟩
                  rw [← hq] at HLB2 HFB e1
                  clear h6 hq H1 HS
                  go_wp2_with (first
                    | ((with_reducible refine wpList_isOp (.alloc 44) rfl ?_); refine wpList_making _ w4 rfl 44 rfl (chC ch0) Hx (zero_ch _) (by exact HZ.out.sz) (by exact HZ.out.al) ?_)
                    | ((with_reducible refine wpList_isOp (.store 44 (.tmp 15) (.tmp 60)) rfl ?_); refine wpList_storing _ w5 rfl 44 (.tmp 15) (.tmp 60) rfl (.agg (chC (hT nn zz, ByteArray.empty, false))) ⟨Hx, 0, none⟩ rfl rfl (by exact HST.out.st) ?_)
                    | fail)
                  refine HLB2.out.mono ?_
                  rintro e w6 ⟨v2, y6, rfl, hcv2, hl6, hc6⟩
                  have HFIN := Lib.hid (HFB.out w6 (HC5.out.trans hc6))
                  clear hcv2 hl6 hc6 HFB HLB2 hcv
                  go_wp2_with fail
                  go_ret2
                  exact HFIN.out
                case pos =>
                  rw [h6] at HLB2
                  have HE4 := Lib.hid h6
                  clear h6 H1
                  go_wp2_with (first
                    | ((with_reducible refine wpList_isOp (.alloc 44) rfl ?_); refine wpList_making _ w4 rfl 44 rfl (chC ch0) Hx (zero_ch _) (by exact HZ.out.sz) (by exact HZ.out.al) ?_)
                    | ((with_reducible refine wpList_isOp (.store 44 (.tmp 15) (.tmp 60)) rfl ?_); refine wpList_storing _ w5 rfl 44 (.tmp 15) (.tmp 60) rfl (.agg (chC (hT nn zz, ByteArray.empty, false))) ⟨Hx, 0, none⟩ rfl rfl (by exact HST.out.st) ?_)
                    | fail)
                  refine HLB2.out.mono ?_
                  rintro e w6 ⟨v2, y6, rfl, hcv2, hl6, hc6⟩
                  have hcw := hcv2 w6 (Ch.refl _ _)
                  have hb6 := (hc6.block Hx (blk_lt HST.out.cx) (fun f => f)).trans HST.out.cx
                  have c1 : w6.cell? ⟨Hx, 1, none⟩ = some (.string ByteArray.empty) := blk_cell hb6
                  have f1 : w6.frozen? ⟨Hx, 1, none⟩ = false := blk_frozen hb6
                  obtain ⟨w7, hw7⟩ : ∃ w7, w7 = w6.setCell ⟨Hx, 1, none⟩ (.string (hT (oN2 nn zz) (oZ2 nn zz))) := ⟨_, rfl⟩
                  have hk7 : Ch (fun i => i = Hx) w6 w7 := by rw [hw7]; exact (Ch.refl (fun i => i = Hx) w6).setCell (p := ⟨Hx, 1, none⟩) (Or.inl rfl) _
                  have hb7 : w7.heap[Hx]? = some (.cells (chC (hT nn zz, hT (oN2 nn zz) (oZ2 nn zz), false)) 44 (0, 0)) := by rw [hw7, blk_set hb6]; rfl
                  have HLD := Lib.hid (load_ch hb7)
                  have hc7 : Ch (fun _ => False) wr w7 := (HC5.out.trans hc6).new (hk7.mono fun i _ e => by rw [e]; exact HNE.out.2)
                  obtain ⟨g, cap, W8, hr, ho, hk, _⟩ := FlO.app kdCh_ok (x := (hT nn zz, hT (oN2 nn zz) (oZ2 nn zz), false)) (HS.out.out.gr hc7) (by rw [HS.out.len]; have := HB.out; omega) (HS.out.ch.trans hc7).size
                  have hsl := fl_slice kdCh_ok w7 (hT nn zz, hT (oN2 nn zz) (oZ2 nn zz), false)
                  obtain ⟨p1, p2, p3, p4⟩ := o1 HE1.out HE2.out HE3.out HE4.out
                  obtain ⟨d1, d2, d3⟩ := d_next hlt p1
                  have hown := HS.out.out.gr hc7
                  have HS2 : Hid (DcSt V (aN n z) (aZ n z) w W8 (j + 1) y6 (.slice (some ⟨g, 0, none⟩) (X.length + 1) cap) (X ++ [oX nn zz]) (nn - oK nn zz) (tl zz (oK nn zz))) := Lib.hid ⟨by rw [← p3, ← p4]; exact (hl6.new hk7 HNE.out.1).new hk fun i e => (hown.lo e).1, by rw [p2]; exact ho, by rw [List.length_append, HS.out.len]; rfl, by rw [HS.out.e, d1], by rw [HS.out.x, d2, List.append_assoc]; rfl, by rw [HS.out.k, d3], (HS.out.ch.trans hc7).new (hk.mono fun i _ e => (hown.lo e).1)⟩
                  have HR := Lib.hid hr
                  have HSL := Lib.hid hsl
                  have HW7 := Lib.hid hw7
                  obtain ⟨M, hM⟩ : ∃ M, M = X.length + 1 := ⟨_, rfl⟩
                  rw [← hM] at HR HS2
                  clear hcv2 hl6 hc6 hb6 hw7 hk7 hb7 hc7 hr ho hk hsl p1 p2 p3 p4 d1 d2 d3 hown hM HLB2 HS
                  go_upto_region 25 with fail
                  rw [← HW7.out]
                  go_wp2_with (first
                    | ((with_reducible refine wpList_isOp (.load 44 (.tmp 15)) rfl ?_); refine wpList_loading _ rfl 44 (.tmp 15) rfl (.agg (chC (hT nn zz, hT (oN2 nn zz) (oZ2 nn zz), false))) ⟨Hx, 0, none⟩ rfl (by exact HLD.out) ?_)
                    | ((with_reducible refine wpList_isOp (.buildSlice 24 1 #[(0, .tmp 77)]) rfl ?_); refine wpList_sliceF _ _ rfl 24 0 1 (.tmp 77) rfl (.agg (chC (hT nn zz, hT (oN2 nn zz) (oZ2 nn zz), false))) _ rfl (by exact HSL.out) ?_)
                    | (at_builtin; refine wpList_appF 24 _ rfl (.tmp 76) (.tmp 78) rfl rfl _ _ (.slice (some ⟨g, 0, none⟩) M cap) W8 rfl rfl (by exact HR.out) ?_)
                    | fail)
                  go_roundw
                  case rel => exact ⟨j + 1, _, _, _, by omega, by go_num, HS2⟩
                  case measure => simp [intOf]; omega
      · have hje : j = V := by omega
        have j1 : ¬ (j : Int) < (V : Int) := by omega
        obtain ⟨A, C, rfl⟩ := HS.out.left.sl
        have he : dE V (aN n z) (aZ n z) = 0 := by rw [HS.out.e, hje, Nat.sub_self]; rfl
        have hk : dN V (aN n z) (aZ n z) = nn := by rw [HS.out.k, hje, Nat.sub_self]; rfl
        have hx : dX V (aN n z) (aZ n z) = X := by rw [HS.out.x, hje, Nat.sub_self]; exact List.append_nil _
        have n0 : (0 : Int) ≤ (nn : Int) := Int.natCast_nonneg _
        by_cases h0 : nn = 0
        · have hd : decE n z = 0 := by
            unfold decE
            rw [if_pos HG.out, ← HVV.out, if_pos HB.out, he, hk, h0]
            rfl
          have hdx : decX n z = X := by unfold decX; rw [if_pos hd, ← HVV.out]; exact hx
          have HFIN : Hid (RDecP n z w (.returned (.tuple #[u7, .int .i64 0])) wr) := Lib.hid ⟨_, by rw [hd]; rfl, by rw [hdx]; exact HS.out.out, HS.out.ch⟩
          have z1 : ¬ (0 : Int) < (nn : Int) := by omega
          clear he hk hx h0 hd hdx HS hje
          go_wp2_with fail
          go_ret2
          exact HFIN.out
        · have hd : decE n z = 7 := by
            unfold decE
            rw [if_pos HG.out, ← HVV.out, if_pos HB.out, he, hk, if_pos rfl, if_neg h0]
          have HFIN : Hid (RDecP n z w (.returned (.tuple #[.slice none 0 0, .int .i64 7])) wr) := Lib.hid (rdec_bad (by rw [hd]; exact ⟨rfl, by omega⟩) HS.out.ch)
          have z1 : (0 : Int) < (nn : Int) := by omega
          clear he hk hx h0 hd HS hje
          go_wp2_with fail
          go_ret2
          exact HFIN.out
#print axioms rdec_yes
theorem rdec_any (A : Option Addr) (n C : Nat) (z : Nat → Nat) (w : World) (h : RowV w (.slice A n C) n z) (hn : n ≤ 1048576) : Calls Try.prog 9 #[.slice A n C] w (RDecP n z w) := by
  by_cases hg : gE n z = 0
  · have h0 : 0 < n := by
      have hr := rd_rk n z
      rw [(g_ok hg).1] at hr
      have := (Cod.rd_ok_short hr)
      omega
    exact rdec_yes _ n z w ⟨h, nn_of h h0, h.low, hn⟩ hg
  · have HG := Lib.hid (rget_any A n C z (rK n z) (rE n z) w h (rd_rk n z))
    have e1 : Cod.resE T63 z (rK n z) (rE n z) = gE n z := rfl
    have hgi : ¬ ((gE n z : Nat) : Int) = 0 := by omega
    have hd : decE n z = gE n z := by unfold decE; rw [if_neg hg]
    have HFB := Lib.hid (fun w' (k : Ch (fun _ => False) w w') => rdec_bad (n := n) (z := z) (E := (gE n z : Int)) (by rw [hd]; exact ⟨rfl, hg⟩) k)
    obtain ⟨q, hq⟩ : ∃ q, q = gE n z := ⟨_, rfl⟩
    unfold GetP at HG
    rw [e1, ← hq] at HG
    rw [← hq] at hgi HFB
    clear h hn hg e1 hd hq
    go_enter Try.func9, Try.ntmps9
    go_wp2_with fail
    refine HG.out.mono ?_
    rintro e w1 ⟨A1, C1, d, rfl, rfl, _, _⟩
    have HFIN := Lib.hid (HFB.out _ ((Ch.refl (fun _ => False) w).drewN d))
    obtain ⟨v1, hv1⟩ : ∃ v1, v1 = Cod.resV T63 z (rK n z) (rE n z) := ⟨_, rfl⟩
    obtain ⟨k1, hk1⟩ : ∃ k1, k1 = Cod.resK T63 z (rK n z) (rE n z) := ⟨_, rfl⟩
    rw [← hv1, ← hk1]
    clear hv1 hk1 HFB HG
    go_wp2_with fail
    go_ret2
    exact HFIN.out
#print axioms rdec_any
end Go.Proofs.Ytkpahhioiefcbaa
namespace Go.Proofs.Ytkpahhioiefcbaa
open Go.RowKit
set_option linter.unusedVariables false
set_option maxRecDepth 100000

def litZ (l : List Nat) (i : Nat) : Nat := l.getD i 0
def litV (l : List Nat) : Array Value := (l.map fun (x : Nat) => Value.int .u8 (x : Int)).toArray
theorem lit_row (w : World) (l : List Nat) (n : Nat) (fr : Nat × Nat) (hn : l.length = n) (h : ∀ x ∈ l, x < 256) (h2 : n ≤ 65536) : RowV (w.alloc (.cells (litV l) /-t-/5 fr)) (.slice (some ⟨w.heap.size, 0, none⟩) n n) n (litZ l) := by
  refine ⟨_, _, rfl, by omega, fun _ => ⟨_, _, rfl, fun c hc => ⟨?_, ?_⟩⟩⟩
  · rw [cell_of_row _ _ _ _ _ fr (heap_alloc_new w _), Nat.zero_add]
    unfold litV litZ
    have hc' : c < l.length := by omega
    simp [List.getD, hc']
  · unfold litZ
    rw [List.getD, List.getElem?_eq_getElem (by omega)]
    exact h _ (List.getElem_mem _)
#print axioms lit_row
end Go.Proofs.Ytkpahhioiefcbaa
