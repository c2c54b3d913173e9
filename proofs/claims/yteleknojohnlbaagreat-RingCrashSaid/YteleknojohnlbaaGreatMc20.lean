/-
  (*code.In).Bytes, walked. The log's pieces, in plain words: which may be, a piece's body, its sector in a mirror, what a sector tells.
-/
import Derived.Test.YteleknojohnlbaaGreatMc19
namespace Go.Proofs.YteleknojohnlbaaGreat
open Go.RowKit Go.Shelf Cod
set_option linter.unusedVariables false
set_option maxRecDepth 100000
def bE (n : Nat) (z : Nat → Nat) (k e : Nat) : Nat := if resE T63 z k e = 0 then if resV T63 z k e ≤ 4096 then if resV T63 z k e ≤ n - resK T63 z k e then 0 else 6 else 2 else resE T63 z k e
def bL (n : Nat) (z : Nat → Nat) (k e : Nat) : Nat := if bE n z k e = 0 then resV T63 z k e else 0
def bK (n : Nat) (z : Nat → Nat) (k e : Nat) : Nat := if bE n z k e = 0 then resK T63 z k e + resV T63 z k e else 0
theorem b_bad {n : Nat} {z : Nat → Nat} {k e : Nat} (h : ¬ bE n z k e = 0) : bL n z k e = 0 ∧ bK n z k e = 0 := by unfold bL bK; rw [if_neg h, if_neg h]; exact ⟨rfl, rfl⟩
theorem b_ok {n : Nat} {z : Nat → Nat} {k e : Nat} (h : bE n z k e = 0) : bL n z k e = resV T63 z k e ∧ bK n z k e = resK T63 z k e + resV T63 z k e ∧ resE T63 z k e = 0 ∧ resV T63 z k e ≤ 4096 ∧ resV T63 z k e ≤ n - resK T63 z k e := by
  unfold bL bK
  rw [if_pos h, if_pos h]
  unfold bE at h
  split at h
  · split at h
    · split at h
      · rename_i h1 h2 h3; exact ⟨rfl, rfl, h1, h2, h3⟩
      · cases h
    · cases h
  · rename_i h1; exact absurd h h1
theorem bE_wrong {n : Nat} {z : Nat → Nat} {k e : Nat} (h : ¬ resE T63 z k e = 0) : bE n z k e = resE T63 z k e := by unfold bE; rw [if_neg h]
theorem bE_long {n : Nat} {z : Nat → Nat} {k e : Nat} (h : resE T63 z k e = 0) (h2 : ¬ resV T63 z k e ≤ 4096) : bE n z k e = 2 := by unfold bE; rw [if_pos h, if_neg h2]
theorem bE_short {n : Nat} {z : Nat → Nat} {k e : Nat} (h : resE T63 z k e = 0) (h2 : resV T63 z k e ≤ 4096) (h3 : ¬ resV T63 z k e ≤ n - resK T63 z k e) : bE n z k e = 6 := by unfold bE; rw [if_pos h, if_pos h2, if_neg h3]
theorem bE_fine {n : Nat} {z : Nat → Nat} {k e : Nat} (h : resE T63 z k e = 0) (h2 : resV T63 z k e ≤ 4096) (h3 : resV T63 z k e ≤ n - resK T63 z k e) : bE n z k e = 0 := by unfold bE; rw [if_pos h, if_pos h2, if_pos h3]
def BytesPost (B n : Nat) (x : Value) (z : Nat → Nat) (k e : Nat) (w : World) (en : Ending) (w' : World) : Prop :=
  ∃ y, en = .returned (.tuple #[y, .int .i64 (bE n z k e : Int)]) ∧ RowV w' y (bL n z k e) (fun i => z (resK T63 z k e + i)) ∧ w'.ownsRow w.heap.size /-t-/5 1 y (bL n z k e) (bytesL (bL n z k e) (fun i => z (resK T63 z k e + i))) ∧
    ∃ x', InIs w' B x' (n - bK n z k e) (fun i => z (bK n z k e + i)) ∧ (∀ S, Off S x → Off S x') ∧ Ch (fun i => i = B) w w'
theorem bytes_bad {B n k e E : Nat} {x : Value} {z : Nat → Nat} {w w' : World} (hE : bE n z k e = E) (h0 : ¬ E = 0) (h : InIs w B x n z) (hch : Ch (fun _ => False) w w') :
    BytesPost B n x z k e w (.returned (.tuple #[.slice none 0 0, .int .i64 (E : Int)])) w' := by
  obtain ⟨h1, h2⟩ := b_bad (hE ▸ h0)
  refine ⟨.slice none 0 0, by rw [hE], by rw [h1]; exact nil_row _ _, by rw [h1]; exact World.ownsRow_nil _ _ _ _, x, ?_, fun S h => h, hch.toN⟩
  rw [h2]
  exact (h.gr hch).congr (by omega) (fun i _ => by rw [Nat.zero_add])
theorem ahead_is {w : World} {B n : Nat} {x : Value} {z : Nat → Nat} (h : InIs w B x n z) : InIs (w.alloc (.cells #[x] 172)) w.heap.size x n z := by
  exact ⟨Boxed.new w _ _, h.row.gr ((Ch.refl _ w).alloc _ _), h.nn⟩
theorem Ch.newer {w w1 w2 : World} {B : Nat} (h : Ch (fun _ => False) w w1) (k : Ch (fun i => i = B) w1 w2) (hB : w.heap.size ≤ B) : Ch (fun _ => False) w w2 := h.new (k.mono (fun i _ e => by rw [e]; exact hB))
theorem bytes_good {B n k e K V : Nat} {x x' v : Value} {z : Nat → Nat} {w w1 w3 : World} (hE : bE n z k e = 0) (hL : bL n z k e = V) (hK : bK n z k e = K + V) (hKK : K = resK T63 z k e) (h : InIs w B x n z) (hch1 : Ch (fun _ => False) w w1)
    (hx : RowV w1 x' (n - K - V) (fun i => z (K + (V + i)))) (hnn : NN x') (hoff : Off (fun i => i = B) x') (hoff2 : ∀ S, Off S x → Off S x')
    (hv : w3.ownsRow (w1.setCell ⟨B, 0, none⟩ x').heap.size /-t-/5 1 v V (bytesL V (fun i => z (K + i)))) (hc : Ch (fun _ => False) (w1.setCell ⟨B, 0, none⟩ x') w3) (hby : Bytes V (fun i => z (K + i))) (hV : V ≤ 4096) :
    BytesPost B n x z k e w (.returned (.tuple #[v, .int .i64 0])) w3 := by
  have h1 := h.gr hch1
  have hs := (set_ch w1 B x').size
  refine ⟨v, by rw [hE]; rfl, ?_, by rw [hL, ← hKK]; exact ownsRow_low hv (Nat.le_trans hch1.size hs), x', ?_, hoff2, (hch1.toS (p := ⟨B, 0, none⟩) rfl x').trans hc.toN⟩
  · rw [hL, ← hKK]; exact ownsRow_rowV hv (by omega) hby
  · have h2 : InIs (w1.setCell ⟨B, 0, none⟩ x') B x' (n - K - V) (fun i => z (K + (V + i))) := ⟨h1.box.set x', hx.off (set_ch w1 B x') hoff, hnn⟩
    refine (h2.gr hc).congr (by rw [hK]; omega) (fun i _ => by rw [hK, Nat.add_assoc])
set_option maxHeartbeats 1000000 in
theorem ibytes_any (B n : Nat) (x : Value) (z : Nat → Nat) (k e : Nat) (w : World) (h : InIs w B x n z) (hr : Rd n z k e) (hn : n ≤ 1048576) :
    Calls Tryz.prog 85 #[.pointer (some ⟨B, 0, none⟩)] w (BytesPost B n x z k e w) := by
  obtain ⟨A, C, rfl, hl, _⟩ := id h.row
  have HN := Lib.hid (inum_any w.heap.size n (.slice A n C) z k e _ (ahead_is h) hr)
  have HCA := Lib.hid (show Ch (fun _ => False) w (w.alloc (.cells #[.slice A n C] 172)) from (Ch.refl _ w).alloc _ _)
  have HC := Lib.hid h.cell
  have HH := Lib.hid h
  have hv : (resV T63 z k e : Int) ≤ 9223372036854775807 := by have := resV_le T63 z k e; unfold T63 at this; unfold T63; omega
  have hBB : B < w.heap.size := h.box.lt
  by_cases hE : resE T63 z k e = 0
  · have t1 : ((resE T63 z k e : Int) != 0) = false := by simpa using hE
    by_cases h4 : resV T63 z k e ≤ 4096
    · have t2 : decide ((4096 : Int) < (resV T63 z k e : Int)) = false := by simp; omega
      by_cases h5 : resV T63 z k e ≤ n - resK T63 z k e
      · have HE := Lib.hid (bE_fine hE h4 h5)
        have HK := Lib.hid (b_ok (bE_fine hE h4 h5))
        obtain ⟨V, hV⟩ : ∃ V, V = resV T63 z k e := ⟨_, rfl⟩
        obtain ⟨K, hK⟩ : ∃ K, K = resK T63 z k e := ⟨_, rfl⟩
        obtain ⟨M, hM⟩ : ∃ M, M = n - K := ⟨_, rfl⟩
        rw [← hV] at HN HK t2 h4 h5 hv
        rw [← hK] at HN HK h5
        rw [← hM] at HK h5
        rw [hE] at HN
        have t3 : decide (M < V) = false := by simp; omega
        have HKK := Lib.hid hK
        have HMM := Lib.hid hM
        have hV4 := h4
        have hVM := h5
        clear hV hK hM t1
        clear h hl hr hE h4 h5
        go_enter Tryz.func85, Tryz.ntmps85
        go_wp2_with fail
        refine (rest_any B A n C _ HC.out).mono ?_
        rintro e' w' ⟨rfl, rfl⟩
        go_wp2_with fail
        refine HN.out.mono ?_
        rintro e' w1 ⟨rfl, x1, hx1, ho1, hch1⟩
        have HC1 := Lib.hid (HCA.out.newer hch1 (Nat.le_refl _))
        rw [← HMM.out] at hx1
        obtain ⟨A1, D, rfl, hl1, hr1⟩ := id hx1.row
        have HB1 := Lib.hid (HH.out.gr HC1.out)
        have ca := hx1.cell
        have cb := HB1.out.cell
        have fb := HB1.out.box.frozen
        have HX := Lib.hid hx1
        have hoB := ho1 _ HH.out.off
        have hl2 := hl1.1
        have hl3 := hl1.2
        have hq1 : ¬ w.heap.size = B := by omega
        have hq2 : ¬ B = w.heap.size := by omega
        cases A1 with
        | none =>
          have hM : M = 0 := by
            rcases Nat.eq_zero_or_pos M with q | q
            · exact q
            · obtain ⟨_, _, q, _⟩ := hr1 q; cases q
          obtain rfl := hx1.nn.1 _ _ rfl
          subst hM
          obtain rfl : V = 0 := by omega
          clear hx1 hr1 hl1 hch1
          go_wp2_with fail
          refine (left_any w.heap.size 0 _ _ _ HX.out).mono ?_
          rintro e' w' ⟨rfl, rfl⟩
          go_wp2_with fail
          refine (clone_any none 0 0 (fun i => z (K + i)) _ (nil_row _ _) (by omega)).mono ?_
          rintro e' w3 ⟨v, rfl, hv, hc⟩
          have HF := Lib.hid (bytes_good HE.out HK.out.1 HK.out.2.1 HKK.out HH.out HC1.out (x' := .slice none 0 0) (by rw [← HMM.out]; exact nil_row _ _) nn_none Off.zero ho1 hv hc (fun c hc => absurd hc (Nat.not_lt_zero c)) (by omega))
          clear hv hc
          go_wp2
          go_ret2
          exact HF.out
        | some ad =>
          obtain ⟨b, o, rfl⟩ := hx1.nn.2 _ _ _ rfl
          have HBY : Hid (Bytes V (fun i => z (K + i))) := fun c hc => hx1.row.bytes c (by omega)
          have hoB' : ∀ p m C', Off (fun i => i = B) (.slice (some ⟨b, p, none⟩) m C') ∨ M = 0 := fun p m C' => by
            rcases Nat.eq_zero_or_pos M with q | q
            · exact Or.inr q
            · exact Or.inl (hoB.part q)
          by_cases hD : D = V
          · subst hD
            obtain rfl : M = D := by omega
            have HT := Lib.hid (show RowV w1 (.slice (some ⟨b, o, none⟩) 0 0) (n - K - M) (fun i => z (K + (M + i))) by rw [← HMM.out, Nat.sub_self]; exact none_row _ _ _)
            have HO1 : Hid (Off (fun i => i = B) (.slice (some ⟨b, o, none⟩) 0 0)) := Off.zero
            have HO2 : Hid (∀ S, Off S (.slice A n C) → Off S (.slice (some ⟨b, o, none⟩) 0 0)) := fun S _ => Off.zero
            have HCL := Lib.hid (clone_any (some ⟨b, o, none⟩) M M (fun i => z (K + i)) _ (hx1.row.off (set_ch w1 B (.slice (some ⟨b, o, none⟩) 0 0)) hoB) (by omega))
            clear hx1 hr1 hl1 hch1 hoB hoB' ho1
            go_wp2_with fail
            refine (left_any w.heap.size M _ _ _ HX.out).mono ?_
            rintro e' w' ⟨rfl, rfl⟩
            go_wp2_with fail
            refine HCL.out.mono ?_
            rintro e' w3 ⟨v, rfl, hv, hc⟩
            have HF := Lib.hid (bytes_good HE.out HK.out.1 HK.out.2.1 HKK.out HH.out HC1.out HT.out (nn_some _ _ _ _) HO1.out HO2.out hv hc HBY.out hV4)
            clear hv hc
            go_wp2
            go_ret2
            exact HF.out
          · have HT := Lib.hid (show RowV w1 (.slice (some ⟨b, o + V, none⟩) (M - V) (D - V)) (n - K - V) (fun i => z (K + (V + i))) by rw [← HMM.out]; exact row_tail hx1.row hVM)
            have HO1 : Hid (Off (fun i => i = B) (.slice (some ⟨b, o + V, none⟩) (M - V) (D - V))) := by
              rcases Nat.eq_zero_or_pos M with q | q
              · rw [q, Nat.zero_sub]; exact Off.zero
              · exact hoB.part q
            have HO2 : Hid (∀ S, Off S (.slice A n C) → Off S (.slice (some ⟨b, o + V, none⟩) (M - V) (D - V))) := fun S hS => by
              rcases Nat.eq_zero_or_pos M with q | q
              · rw [q, Nat.zero_sub]; exact Off.zero
              · exact (ho1 S hS).part q
            have HCL := Lib.hid (clone_any (some ⟨b, o, none⟩) V D (fun i => z (K + i)) _ (row_front (hx1.row.off (set_ch w1 B (.slice (some ⟨b, o + V, none⟩) (M - V) (D - V))) hoB) hVM) (by omega))
            have e5 : ((M - V : Nat) : Int) = (M : Int) - (V : Int) := by omega
            have e6 : ((D - V : Nat) : Int) = (D : Int) - (V : Int) := by omega
            have t4 : (D : Int) - (V : Int) ≠ 0 := by omega
            clear hx1 hr1 hl1 hch1 hoB hoB' ho1
            go_wp2_with fail
            refine (left_any w.heap.size M _ _ _ HX.out).mono ?_
            rintro e' w' ⟨rfl, rfl⟩
            go_wp2_with fail
            refine HCL.out.mono ?_
            rintro e' w3 ⟨v, rfl, hv, hc⟩
            have HF := Lib.hid (bytes_good HE.out HK.out.1 HK.out.2.1 HKK.out HH.out HC1.out HT.out (nn_some _ _ _ _) HO1.out HO2.out hv hc HBY.out hV4)
            clear hv hc
            go_wp2
            go_ret2
            exact HF.out
      · have t3 : decide (n - resK T63 z k e < resV T63 z k e) = true := by simp; omega
        have HF := Lib.hid (fun w' : World => bytes_bad (w' := w') (bE_short hE h4 h5) (by decide) h)
        clear h hl hr h4 h5 hE
        go_enter Tryz.func85, Tryz.ntmps85
        go_wp2_with fail
        refine (rest_any B A n C _ HC.out).mono ?_
        rintro e' w' ⟨rfl, rfl⟩
        go_wp2_with fail
        refine HN.out.mono ?_
        rintro e' w1 ⟨rfl, x1, hx1, ho1, hch1⟩
        have HC1 := Lib.hid (HCA.out.newer hch1 (Nat.le_refl _))
        have HX := Lib.hid hx1
        clear hx1 ho1 hch1
        go_wp2_with fail
        refine (left_any w.heap.size _ _ _ _ HX.out).mono ?_
        rintro e' w' ⟨rfl, rfl⟩
        go_wp2
        go_ret2
        exact HF.out _ HC1.out
    · have t2 : decide ((4096 : Int) < (resV T63 z k e : Int)) = true := by simp; omega
      have HF := Lib.hid (fun w' : World => bytes_bad (w' := w') (bE_long hE h4) (by decide) h)
      clear h hl hr h4 hE
      go_enter Tryz.func85, Tryz.ntmps85
      go_wp2_with fail
      refine (rest_any B A n C _ HC.out).mono ?_
      rintro e' w' ⟨rfl, rfl⟩
      go_wp2_with fail
      refine HN.out.mono ?_
      rintro e' w1 ⟨rfl, x1, hx1, ho1, hch1⟩
      have HC1 := Lib.hid (HCA.out.newer hch1 (Nat.le_refl _))
      clear hx1 ho1 hch1
      go_wp2
      go_ret2
      exact HF.out _ HC1.out
  · have t1 : ((resE T63 z k e : Int) != 0) = true := by simpa using hE
    have HF := Lib.hid (fun w' : World => bytes_bad (w' := w') (bE_wrong hE) hE h)
    clear h hl hr hv
    go_enter Tryz.func85, Tryz.ntmps85
    go_wp2_with fail
    refine (rest_any B A n C _ HC.out).mono ?_
    rintro e' w' ⟨rfl, rfl⟩
    go_wp2_with fail
    refine HN.out.mono ?_
    rintro e' w1 ⟨rfl, x1, hx1, ho1, hch1⟩
    have HC1 := Lib.hid (HCA.out.newer hch1 (Nat.le_refl _))
    clear hx1 ho1 hch1
    go_wp2
    go_ret2
    exact HF.out _ HC1.out
end Go.Proofs.YteleknojohnlbaaGreat
namespace Go.Proofs.YteleknojohnlbaaGreat
open Go.RowKit
set_option linter.unusedVariables false
set_option maxRecDepth 100000
structure Pn where
  seq : Int
  ep : Int
  fr : Int
  ch : Int
  ix : Int
  ofn : Int
  B : List Nat
def pcC (p : Pn) (V : Value) : Array Value := #[.int .i64 p.seq, .int .i64 p.ep, .int .i64 p.fr, .int .i64 p.ch, .int .i64 p.ix, .int .i64 p.ofn, V]
def pn0 : Pn := ⟨0, 0, 0, 0, 0, 0, []⟩
def wordsP (p : Pn) : Bool := wordS p.seq && (wordS p.ep && (wordS p.fr && wordS p.ch))
def mayP (p : Pn) : Bool := wordsP p && (decide (p.fr ≤ p.seq) && (inB p.ofn 1 64 && (inB p.ix 0 (p.ofn - 1) && decide (p.B.length ≤ 200))))
structure MayPn (p : Pn) : Prop where
  seq : 0 ≤ p.seq ∧ p.seq ≤ 4294967295
  ep : 0 ≤ p.ep ∧ p.ep ≤ 4294967295
  fr : 0 ≤ p.fr ∧ p.fr ≤ 4294967295
  ch : 0 ≤ p.ch ∧ p.ch ≤ 4294967295
  le : p.fr ≤ p.seq
  ofn : 1 ≤ p.ofn ∧ p.ofn ≤ 64
  ix : 0 ≤ p.ix ∧ p.ix ≤ p.ofn - 1
  len : p.B.length ≤ 200
theorem mayP_iff {p : Pn} : mayP p = true ↔ MayPn p := by
  unfold mayP wordsP wordS
  simp only [Bool.and_eq_true, inB_true, decide_eq_true_eq]
  exact ⟨fun ⟨⟨a, b, c, d⟩, e, f, g, h⟩ => ⟨a, b, c, d, e, f, g, h⟩, fun h => ⟨⟨h.seq, h.ep, h.fr, h.ch⟩, h.le, h.ofn, h.ix, h.len⟩⟩
def numR (p : Pn) : Nat → Int
  | 0 => p.fr
  | 1 => p.ch
  | 2 => p.ix
  | _ => p.ofn
def pnOf (s e : Int) (V : Nat → Int) (B : List Nat) : Pn := ⟨s, e, V 0, V 1, V 2, V 3, B⟩
theorem pnOf_eq {p : Pn} {s e : Int} {V : Nat → Int} {B : List Nat} (h1 : s = p.seq) (h2 : e = p.ep) (h : ∀ j, j < 4 → V j = numR p j) (h3 : B = p.B) : pnOf s e V B = p := by
  subst h1
  subst h2
  subst h3
  unfold pnOf
  rw [h 0 (by omega), h 1 (by omega), h 2 (by omega), h 3 (by omega)]
  rfl
theorem numR_in {p : Pn} (h : mayP p = true) (j : Nat) : 0 ≤ numR p j ∧ numR p j ≤ 4294967295 := by
  have m := mayP_iff.1 h
  have m1 := m.fr
  have m2 := m.ch
  have m3 := m.ix
  have m4 := m.ofn
  match j with
  | 0 => show 0 ≤ p.fr ∧ p.fr ≤ _; omega
  | 1 => show 0 ≤ p.ch ∧ p.ch ≤ _; omega
  | 2 => show 0 ≤ p.ix ∧ p.ix ≤ _; omega
  | j + 3 => show 0 ≤ p.ofn ∧ p.ofn ≤ _; omega
def prefR (p : Pn) (j : Nat) : List Nat := (List.range j).flatMap fun c => Cod.digs (numR p c).toNat
def byR (p : Pn) : List Nat := Cod.digs p.B.length ++ p.B
def restR (p : Pn) (j : Nat) : List Nat := (List.range' j (4 - j)).flatMap (fun c => Cod.digs (numR p c).toNat) ++ byR p
def bodyR (p : Pn) : List Nat := prefR p 4 ++ byR p
theorem rowL_lit (L : List Nat) : rowL L.length (Cod.litZ L) = L := by
  unfold rowL
  apply List.ext_getElem
  · simp
  · intro i h1 h2
    simp [Cod.litZ, h2]
theorem byL_own (p : Pn) : byL p.B.length (Cod.litZ p.B) = byR p := by unfold byL byR; rw [rowL_lit]
theorem prefR_snoc (p : Pn) (j : Nat) : prefR p (j + 1) = prefR p j ++ Cod.digs (numR p j).toNat := by
  unfold prefR
  rw [List.range_succ, List.flatMap_append]
  simp
theorem restR_all (p : Pn) : restR p 0 = bodyR p := by
  unfold restR bodyR prefR
  rw [List.range_eq_range']
theorem restR_next (p : Pn) {j : Nat} (h : j < 4) : restR p j = Cod.digs (numR p j).toNat ++ restR p (j + 1) := by
  unfold restR
  rw [show 4 - j = (4 - (j + 1)) + 1 by omega, List.range'_succ, List.flatMap_cons, List.append_assoc]
theorem restR_last (p : Pn) : restR p 4 = byR p := rfl
theorem prefR_len {p : Pn} (h : mayP p = true) : ∀ j, (prefR p j).length ≤ 5 * j
  | 0 => Nat.le_refl 0
  | j + 1 => by
    have ih := prefR_len h j
    have h5 := digs_len5 (n := (numR p j).toNat) (by have := numR_in h j; omega)
    rw [prefR_snoc, List.length_append]
    omega
theorem prefR_b (p : Pn) (j : Nat) : ∀ c ∈ prefR p j, c < 256 := fun c hc => by
  unfold prefR at hc
  obtain ⟨k, _, hk⟩ := List.mem_flatMap.1 hc
  exact Cod.digs_b _ c hk
theorem body_lenR {p : Pn} (h : mayP p = true) : (bodyR p).length ≤ 225 := by
  have h1 := prefR_len h 4
  have h2 := (mayP_iff.1 h).len
  have h3 := digs_len5 (n := p.B.length) (by omega)
  unfold bodyR byR
  simp only [List.length_append]
  omega
theorem bodyR_b {p : Pn} (h : ∀ x ∈ p.B, x < 256) : ∀ c ∈ bodyR p, c < 256 := fun c hc => by
  rcases List.mem_append.1 hc with q | q
  · exact prefR_b p 4 c q
  · rcases List.mem_append.1 q with q | q
    · exact Cod.digs_b _ c q
    · exact h c q
def addrR (g : Ge) (mir slot : Int) : Int := 4 + mir * g.wal + slot
def mirB (mir : Int) : Bool := inB mir 0 1
def rokB (vol : Int) (g : Ge) (mir : Int) (p : Pn) : Bool := mayP p && (mayG g && (mirB mir && wordS vol))
def rinB (vol : Int) (g : Ge) (mir : Int) (p : Pn) (V : Value) : Bk := ⟨3, vol, addrR g mir (p.seq % g.wal), p.ep, p.seq, V, (bodyR p).length, Cod.litZ (bodyR p)⟩
def sectR (vol : Int) (g : Ge) (mir : Int) (p : Pn) : Nat → Nat := sectZ (rinB vol g mir p undef)
def secRN (vol : Int) (g : Ge) (mir : Int) (p : Pn) : Nat := if rokB vol g mir p then 256 else 0
def secRE (vol : Int) (g : Ge) (mir : Int) (p : Pn) : Int := if rokB vol g mir p then 0 else 1
theorem rokB_iff {vol : Int} {g : Ge} {mir : Int} {p : Pn} : rokB vol g mir p = true ↔ mayP p = true ∧ mayG g = true ∧ (0 ≤ mir ∧ mir ≤ 1) ∧ (0 ≤ vol ∧ vol ≤ 4294967295) := by
  unfold rokB mirB wordS
  simp only [Bool.and_eq_true, inB_true]
theorem slot_in {g : Ge} (h : mayG g = true) {s : Int} (hs : 0 ≤ s) : 0 ≤ s % g.wal ∧ s % g.wal < g.wal := by
  obtain ⟨⟨a1, a2⟩, _⟩ := may_parts h
  exact ⟨Int.emod_nonneg _ (by omega), Int.emod_lt_of_pos _ (by omega)⟩
theorem addr_in {g : Ge} (h : mayG g = true) {mir s : Int} (hm : 0 ≤ mir ∧ mir ≤ 1) (hs : 0 ≤ s ∧ s < g.wal) : 4 ≤ addrR g mir s ∧ addrR g mir s ≤ 1027 := by
  obtain ⟨⟨a1, a2⟩, _⟩ := may_parts h
  unfold addrR
  obtain rfl | rfl : mir = 0 ∨ mir = 1 := by omega
  · omega
  · omega
theorem rinB_num {vol : Int} {g : Ge} {mir : Int} {p : Pn} (hp : mayP p = true) (hg : mayG g = true) (hm : 0 ≤ mir ∧ mir ≤ 1) (V : Value) : (numB (rinB vol g mir p V) = wordS vol) ∧ (rinB vol g mir p V).len ≤ 228 := by
  have m := mayP_iff.1 hp
  have m1 := m.seq
  have m2 := m.ep
  have l := body_lenR hp
  have a := addr_in hg hm (slot_in hg m1.1)
  refine ⟨?_, Nat.le_trans l (by omega)⟩
  refine Bool.eq_iff_iff.2 ⟨fun h => inB_true.2 (numB_iff.1 h).vol, fun h => numB_iff.2 ⟨?_, inB_true.1 h, ?_, m2, m1⟩⟩
  · show 1 ≤ (3 : Int) ∧ (3 : Int) ≤ 4; omega
  · show 0 ≤ addrR g mir (p.seq % g.wal) ∧ addrR g mir (p.seq % g.wal) ≤ _; omega
theorem rinB_may {vol : Int} {g : Ge} {mir : Int} {p : Pn} (h : rokB vol g mir p = true) (V : Value) : mayB (rinB vol g mir p V) = true := by
  obtain ⟨h1, h2, h3, h4⟩ := rokB_iff.1 h
  obtain ⟨e1, e2⟩ := rinB_num (vol := vol) h1 h2 h3 V
  unfold mayB
  rw [e1, show wordS vol = true from inB_true.2 h4, Bool.true_and]
  exact decide_eq_true e2
theorem rinB_seal {vol : Int} {g : Ge} {mir : Int} {p : Pn} (hp : mayP p = true) (hg : mayG g = true) (hm : mirB mir = true) (V : Value) : sealN (rinB vol g mir p V) = secRN vol g mir p ∧ sealE (rinB vol g mir p V) = secRE vol g mir p := by
  obtain ⟨e1, e2⟩ := rinB_num (vol := vol) hp hg (inB_true.1 hm) V
  have e : rokB vol g mir p = wordS vol := by unfold rokB; rw [hp, hg, hm]; rfl
  have e3 : mayB (rinB vol g mir p V) = wordS vol := by
    unfold mayB
    rw [e1, decide_eq_true e2, Bool.and_true]
  constructor
  · unfold sealN secRN; rw [e3, e]
  · unfold sealE secRE
    rw [e1, e, if_pos e2]
theorem sectR_b {vol : Int} {g : Ge} {mir : Int} {p : Pn} (h : ∀ x ∈ p.B, x < 256) (m : Nat) : Bytes m (sectR vol g mir p) := sectZ_b (fun c _ => Cod.litZ_b (bodyR_b h) c) m
def SecRPost (vol : Int) (g : Ge) (mir : Int) (p : Pn) (w : World) (e : Ending) (w' : World) : Prop :=
  ∃ A C, e = .returned (.tuple #[.slice A (secRN vol g mir p) C, .int .i64 (secRE vol g mir p)]) ∧ w'.ownsRow w.heap.size /-t-/5 1 (.slice A (secRN vol g mir p) C) (secRN vol g mir p) (bytesL (secRN vol g mir p) (sectR vol g mir p)) ∧ Ch (fun _ => False) w w'
theorem secRPost_no {vol : Int} {g : Ge} {mir : Int} {p : Pn} {w w' : World} (h : rokB vol g mir p = false) (hc : Ch (fun _ => False) w w') : SecRPost vol g mir p w (.returned (.tuple #[.slice none 0 0, .int .i64 1])) w' := by
  have hN : secRN vol g mir p = 0 := by unfold secRN; rw [h]; rfl
  have hE : secRE vol g mir p = 1 := by unfold secRE; rw [h]; rfl
  exact ⟨none, 0, by rw [hN, hE], by rw [hN]; exact World.ownsRow_nil _ _ _ _, hc⟩
theorem secRPost_seal {vol : Int} {g : Ge} {mir : Int} {p : Pn} {w w1 w' : World} {e : Ending} {V : Value} (hp : mayP p = true) (hg : mayG g = true) (hm : mirB mir = true) (hc : Ch (fun _ => False) w w1) (h : SealPost (rinB vol g mir p V) w1 e w') : SecRPost vol g mir p w e w' := by
  obtain ⟨A, C, rfl, h2, h3⟩ := h
  obtain ⟨e1, e2⟩ := rinB_seal (vol := vol) hp hg hm V
  rw [e1] at h2
  refine ⟨A, C, by rw [e1, e2], ?_, hc.trans h3⟩
  obtain ⟨q0, q⟩ := h2
  exact ⟨q0, q.elim Or.inl fun ⟨g, cap, cur, q1, q2, q3⟩ => Or.inr ⟨g, cap, cur, q1, Nat.le_trans hc.size q2, q3⟩⟩
structure TellsR (n : Nat) (z : Nat → Nat) (vol : Int) (g : Ge) (mir slot : Int) (p : Pn) : Prop where
  sec : rokB vol g mir p = true
  n : n = 256
  z : ∀ c, c < 256 → z c = sectR vol g mir p c
  slot : p.seq % g.wal = slot
  byt : ∀ x ∈ p.B, x < 256
section
variable {n : Nat} {z : Nat → Nat} {vol : Int} {g : Ge} {mir slot : Int} {p : Pn}
theorem TellsR.may (h : TellsR n z vol g mir slot p) : mayP p = true := (rokB_iff.1 h.sec).1
theorem TellsR.opens (h : TellsR n z vol g mir slot p) : opensB n z = true := by
  obtain ⟨h1, rfl, h3, _, _⟩ := h
  rw [opensB_eq h3]
  exact opensB_own (rinB_may h1 undef)
theorem TellsR.back (h : TellsR n z vol g mir slot p) (V : Value) : Same (readB V z) (rinB vol g mir p undef) := (readB_at h.z V undef).trans (Go.Proofs.YteleknojohnlbaaGreat.back (rinB_may h.sec undef) undef)
end
def BackR (Y : Pn → Prop) (j n : Nat) (z : Nat → Nat) : Prop := ∀ y, Y y → n = (restR y j).length ∧ ∀ i, i < n → z i = Cod.litZ (restR y j) i
theorem BackR.first {n : Nat} {z : Nat → Nat} {Y : Pn → Prop} (hY : ∀ y, Y y → ∃ vol g mir slot, TellsR n z vol g mir slot y) (V : Value) : BackR Y 0 (openB n z V).len (openB n z V).z := fun y hy => by
  obtain ⟨vol, g, mir, slot, h⟩ := hY y hy
  rw [openB_yes h.opens, restR_all]
  have s := h.back V
  have el : (readB V z).len = (bodyR y).length := s.len
  exact ⟨el, fun c hc => s.z c (by rw [el] at hc; exact hc)⟩
theorem BackR.next {Y : Pn → Prop} {j n k e : Nat} {z : Nat → Nat} (h : BackR Y j n z) (hj : j < 4) (hY : ∀ y, Y y → mayP y = true) (hr : Cod.Rd n z k e) :
    BackR Y (j + 1) (n - Cod.resK T63 z k e) (fun i => z (Cod.resK T63 z k e + i)) ∧ ∀ y, Y y → Cod.resE T63 z k e = 0 ∧ (Cod.resV T63 z k e : Int) = numR y j := by
  have key : ∀ y, Y y → Cod.resV T63 z k e = (numR y j).toNat ∧ Cod.resK T63 z k e = (Cod.digs (numR y j).toNat).length ∧ Cod.resE T63 z k e = 0 := fun y hy => by
    obtain ⟨h1, h2⟩ := h y hy
    have b := numR_in (hY y hy) j
    rw [restR_next y hj] at h1 h2
    obtain ⟨r1, r2⟩ := Cod.rd_digs (m := (numR y j).toNat) (n := n) (z := z) (by omega) (fun i hi => by rw [h2 i (by rw [h1, List.length_append]; omega), flat_left hi]) (by rw [h1, List.length_append]; omega)
    obtain ⟨rfl, rfl⟩ := Cod.rd_one hr r1
    have := Cod.res_ok (top := T63) (k := (Cod.digs (numR y j).toNat).length) (e := 0) (z := z) rfl (by rw [r2]; unfold T63; omega)
    rw [r2] at this
    exact this
  refine ⟨fun y hy => ?_, fun y hy => ?_⟩
  · obtain ⟨h1, h2⟩ := h y hy
    obtain ⟨_, k2, _⟩ := key y hy
    rw [restR_next y hj] at h1 h2
    rw [k2]
    have e1 : n - (Cod.digs (numR y j).toNat).length = (restR y (j + 1)).length := by rw [h1, List.length_append]; omega
    refine ⟨e1, fun c hc => ?_⟩
    rw [e1] at hc
    show z ((Cod.digs (numR y j).toNat).length + c) = _
    rw [h2 _ (by rw [h1, List.length_append]; omega), flat_right]
  · obtain ⟨k1, _, k3⟩ := key y hy
    have b := numR_in (hY y hy) j
    exact ⟨k3, by rw [k1]; omega⟩
theorem BackR.last {Y : Pn → Prop} {n k e : Nat} {z : Nat → Nat} (h : BackR Y 4 n z) (hY : ∀ y, Y y → mayP y = true) (hr : Cod.Rd n z k e) :
    ∀ y, Y y → bE n z k e = 0 ∧ rowL (bL n z k e) (fun i => z (Cod.resK T63 z k e + i)) = y.B := fun y hy => by
  obtain ⟨h1, h2⟩ := h y hy
  rw [restR_last] at h1 h2
  have hl := (mayP_iff.1 (hY y hy)).len
  unfold byR at h1 h2
  obtain ⟨r1, r2⟩ := Cod.rd_digs (m := y.B.length) (n := n) (z := z) (by omega) (fun i hi => by rw [h2 i (by rw [h1, List.length_append]; omega), flat_left hi]) (by rw [h1, List.length_append]; omega)
  obtain ⟨rfl, rfl⟩ := Cod.rd_one hr r1
  obtain ⟨k1, k2, k3⟩ := Cod.res_ok (top := T63) (k := (Cod.digs y.B.length).length) (e := 0) (z := z) rfl (by rw [r2]; unfold T63; omega)
  rw [r2] at k1
  have e0 : bE n z (Cod.digs y.B.length).length 0 = 0 := bE_fine k3 (by rw [k1]; omega) (by rw [k1, k2, h1, List.length_append]; omega)
  refine ⟨e0, ?_⟩
  rw [(b_ok e0).1, k1, k2]
  refine Eq.trans ?_ (rowL_lit y.B)
  unfold rowL
  refine List.map_congr_left fun i hi => ?_
  have hi := List.mem_range.1 hi
  rw [h2 _ (by rw [h1, List.length_append]; omega), flat_right]
def TellR (n : Nat) (z : Nat → Nat) (vol : Int) (g : Ge) (mir slot : Int) (o : Option Pn) : Prop := ∀ y, o = some y ↔ TellsR n z vol g mir slot y
section
variable {n : Nat} {z : Nat → Nat} {vol : Int} {g : Ge} {mir slot : Int}
theorem tellR_one {o o' : Option Pn} (h : TellR n z vol g mir slot o) (k : TellR n z vol g mir slot o') : o = o' := by
  cases o with
  | some y => exact ((k y).2 ((h y).1 rfl)).symm
  | none =>
    cases o' with
    | none => rfl
    | some y => cases (h y).2 ((k y).1 rfl)
end
def optP (o : Option Pn) : Pn := o.getD pn0
end Go.Proofs.YteleknojohnlbaaGreat
