/-
  The document's GetNum and GetInt (quartermasterref05), walked. (*code.In).Bytes, walked. Rows of rows of bytes: tto be read, and of one's own. (Cut out of sup's texts.).
-/
import Derived.Test.YtkpahhioiefcbaaMb7
import Derived.Test.YtkpahhioiefcbaaMb1
import Derived.Test.YtkpahhioiefcbaaMb2
import Derived.Deep.RegionHeld3
namespace Go.Proofs.Ytkpahhioiefcbaa
open Go.RowKit Go.Shelf Cod
set_option linter.unusedVariables false
set_option maxRecDepth 100000

/-- What is handed back of bytes: a value, what is left, an error; the world has but drawn. -/
def GetRPost (n : Nat) (x : Value) (z : Nat → Nat) (K : Nat) (r1 r2 : Value) (w : World) (en : Ending) (w' : World) : Prop :=
  ∃ y d, en = .returned (.tuple #[r1, y, r2]) ∧ w' = w.drewN d ∧ RowV w y (n - K) (fun i => z (K + i)) ∧ NN y ∧ ∀ S, Off S x → Off S y
theorem rpost_all {n K : Nat} {x r1 r2 : Value} {z : Nat → Nat} {w : World} (hK : K = 0) (h : RowV w x n z) (hn : NN x) (d : Nat) : GetRPost n x z K r1 r2 w (.returned (.tuple #[r1, x, r2])) (w.drewN d) := by
  subst hK
  exact ⟨x, d, rfl, rfl, h.congr (fun i _ => by rw [Nat.zero_add]), hn, fun S h => h⟩
theorem rpost_all0 {n K : Nat} {x r1 r2 : Value} {z : Nat → Nat} {w : World} (hK : K = 0) (h : RowV w x n z) (hn : NN x) : GetRPost n x z K r1 r2 w (.returned (.tuple #[r1, x, r2])) w := rpost_all hK h hn 0
theorem rpost_end {n K b o : Nat} {r1 r2 : Value} {z : Nat → Nat} {w : World} (hK : K = n) (d : Nat) : GetRPost n (.slice (some ⟨b, o, none⟩) n n) z K r1 r2 w (.returned (.tuple #[r1, .slice (some ⟨b, o, none⟩) 0 0, r2])) (w.drewN d) := by
  subst hK
  exact ⟨_, d, rfl, rfl, by rw [Nat.sub_self]; exact none_row _ _ _, nn_some _ _ _ _, fun S _ => Off.zero⟩
theorem rpost_tail {n K b o C : Nat} {r1 r2 : Value} {z : Nat → Nat} {w : World} (h : RowV w (.slice (some ⟨b, o, none⟩) n C) n z) (hK : K ≤ n) (h0 : 0 < n) (d : Nat) : GetRPost n (.slice (some ⟨b, o, none⟩) n C) z K r1 r2 w (.returned (.tuple #[r1, .slice (some ⟨b, o + K, none⟩) (n - K) (C - K), r2])) (w.drewN d) :=
  ⟨_, d, rfl, rfl, row_tail h hK, nn_some _ _ _ _, fun S hS => hS.part h0⟩
theorem half_top {v : Nat} : v ≤ T63 ↔ ¬ 4611686018427387903 < v / 2 := by unfold T63; omega
set_option maxHeartbeats 1000000 in
set_option maxRecDepth 100000 in
theorem rgetnum_any (A : Option Addr) (n C : Nat) (z : Nat → Nat) (k e : Nat) (w : World) (h : RowV w (.slice A n C) n z) (hnn : NN (.slice A n C)) (hr : Rd n z k e) :
    Calls Try.prog 25 #[.slice A n C] w (GetRPost n (.slice A n C) z (resK T63 z k e) (.int .i64 (resV T63 z k e : Int)) (.int .i64 (resE T63 z k e : Int)) w) := by
  obtain ⟨_, _, e0, hl, _⟩ := id h
  injection e0 with e0 _ e1
  subst e0
  subst e1
  have hl1 := hl.1
  have HV := Lib.hid h
  have HD := Lib.hid hr
  have HNN := Lib.hid hnn
  rcases rd_e hr with rfl | he
  case inr =>
    have he2 : ¬ e = 0 := by omega
    have hk : k = 0 := by omega
    have t1 : ((e : Int) != 0) = true := by simpa using he2
    have e1 : resV T63 z k e = 0 ∧ resK T63 z k e = 0 ∧ resE T63 z k e = e := by unfold resV resK resE; rw [if_neg he2, if_neg he2, if_neg he2]; exact ⟨rfl, rfl, rfl⟩
    rw [e1.1, e1.2.1, e1.2.2]
    subst hk
    clear h hnn hr hl he he2 e1
    go_enter Try.func25, Try.ntmps25
    go_wp2_with fail
    refine (run_any A n C z _ _ _ HV.out HD.out).mono ?_
    rintro e' w' ⟨rfl, rfl⟩
    go_wp2
    refine bodyPost_ret (v := .tuple #[.int .i64 0, .slice A n C, .int .i64 (e : Int)]) (by simp [results, Try.results25, go_sem]) rfl ?_
    exact rpost_all0 rfl HV.out HNN.out
  obtain ⟨hk0, hkn, hk10, _⟩ := rd_ok_short hr
  have hvt := val_top hr
  have HT := Lib.hid hvt
  obtain ⟨b, o, rfl, _⟩ := h.at (by omega)
  have HF := Lib.hid (row_front h hkn)
  have hl2 := hl.2
  have e5 : ((n - k : Nat) : Int) = (n : Int) - (k : Int) := by omega
  have e6 : ((C - k : Nat) : Int) = (C : Int) - (k : Int) := by omega
  by_cases htop : val z k ≤ T63
  · obtain ⟨r1, r2, r3⟩ := res_ok (k := k) rfl htop
    rw [r1, r2, r3]
    have t2 : decide ((4611686018427387903 : Int) < ((val z k / 2 : Nat) : Int)) = false := by have := half_top.1 htop; simp; omega
    have hsum : 2 * (val z k / 2) + val z k % 2 = val z k := by omega
    have hb : val z k ≤ 9223372036854775807 := htop
    obtain ⟨V, hV⟩ : ∃ V, V = val z k := ⟨_, rfl⟩
    have HVV := Lib.hid hV
    rw [← hV] at hsum hb t2 ⊢
    obtain ⟨H, hH⟩ : ∃ H, H = V / 2 := ⟨_, rfl⟩
    obtain ⟨O, hO⟩ : ∃ O, O = V % 2 := ⟨_, rfl⟩
    have HHH := Lib.hid hH
    have HOO := Lib.hid hO
    rw [← hH, ← hO] at hsum
    rw [← hH] at t2
    have hHl : H ≤ 4611686018427387903 := by omega
    have hOl : O ≤ 1 := by omega
    have HS := Lib.hid (show 2 * (H : Int) + (O : Int) = (V : Int) by omega)
    clear h hnn hr hl hvt htop r1 r2 r3 hV hH hO hsum hb
    by_cases hC : C = k
    · subst hC
      obtain rfl : n = C := by omega
      go_enter Try.func25, Try.ntmps25
      go_wp2_with fail
      refine (run_any _ n n z n 0 _ HV.out HD.out).mono ?_
      rintro e' w' ⟨rfl, rfl⟩
      go_wp2_with fail
      refine (halves_any _ n n z _ HF.out (by omega) (by omega) HT.out).mono ?_
      rintro e' w' ⟨rfl, rfl⟩
      rw [← HVV.out, ← HHH.out, ← HOO.out]
      go_wp2
      go_quiet (fail)
      go_wp2
      refine bodyPost_ret (v := .tuple #[.int .i64 (2 * (H : Int) + (O : Int)), .slice (some ⟨b, o, none⟩) 0 0, .int .i64 0]) (by simp [results, Try.results25, go_sem]) rfl ?_
      rw [HS.out]
      exact rpost_end rfl _
    · have t3 : (C : Int) - (k : Int) ≠ 0 := by omega
      go_enter Try.func25, Try.ntmps25
      go_wp2_with fail
      refine (run_any _ n C z k 0 _ HV.out HD.out).mono ?_
      rintro e' w' ⟨rfl, rfl⟩
      go_wp2_with fail
      refine (halves_any _ k C z _ HF.out (by omega) (by omega) HT.out).mono ?_
      rintro e' w' ⟨rfl, rfl⟩
      rw [← HVV.out, ← HHH.out, ← HOO.out]
      go_wp2
      go_quiet (fail)
      go_wp2
      refine bodyPost_ret (v := .tuple #[.int .i64 (2 * (H : Int) + (O : Int)), .slice (some ⟨b, o + k, none⟩) (n - k) (C - k), .int .i64 0]) (by simp [results, Try.results25, go_sem]) rfl ?_
      rw [HS.out]
      exact rpost_tail HV.out hkn (by omega) _
  · obtain ⟨r1, r2, r3⟩ := res_bad (k := k) (top := T63) (z := z) (e := 0) (Or.inr ⟨rfl, by omega⟩)
    rw [r1, r2, r3]
    have t2 : decide ((4611686018427387903 : Int) < ((val z k / 2 : Nat) : Int)) = true := by
      have : ¬ ¬ 4611686018427387903 < val z k / 2 := fun q => htop (half_top.2 q)
      simp; omega
    clear h hnn hr hl hvt htop r1 r2 r3
    obtain ⟨H, hH⟩ : ∃ H, H = val z k / 2 := ⟨_, rfl⟩
    have HHH := Lib.hid hH
    rw [← hH] at t2
    clear hH
    go_enter Try.func25, Try.ntmps25
    go_wp2_with fail
    refine (run_any _ n C z k 0 _ HV.out HD.out).mono ?_
    rintro e' w' ⟨rfl, rfl⟩
    go_wp2_with fail
    refine (halves_any _ k C z _ HF.out (by omega) (by omega) HT.out).mono ?_
    rintro e' w' ⟨rfl, rfl⟩
    rw [← HHH.out]
    go_wp2
    refine bodyPost_ret (v := .tuple #[.int .i64 0, .slice (some ⟨b, o, none⟩) n C, .int .i64 7]) (by simp [results, Try.results25, go_sem]) rfl ?_
    exact rpost_all0 rfl HV.out HNN.out
#print axioms rgetnum_any
end Go.Proofs.Ytkpahhioiefcbaa
namespace Go.Proofs.Ytkpahhioiefcbaa
open Go.RowKit Go.Shelf Cod
set_option linter.unusedVariables false
set_option maxRecDepth 100000

/-- What is wrong with bytes; how many there are; how much is gone through. -/
def bE (n : Nat) (z : Nat → Nat) (k e : Nat) : Nat := if resE T63 z k e = 0 then if resV T63 z k e ≤ 4096 then if resV T63 z k e ≤ n - resK T63 z k e then 0 else 6 else 2 else resE T63 z k e
def bL (n : Nat) (z : Nat → Nat) (k e : Nat) : Nat := if bE n z k e = 0 then resV T63 z k e else 0
def bK (n : Nat) (z : Nat → Nat) (k e : Nat) : Nat := if bE n z k e = 0 then resK T63 z k e + resV T63 z k e else 0
theorem b_bad {n : Nat} {z : Nat → Nat} {k e : Nat} (h : ¬ bE n z k e = 0) : bL n z k e = 0 ∧ bK n z k e = 0 := by unfold bL bK; rw [if_neg h, if_neg h]; exact ⟨rfl, rfl⟩
theorem b_ok {n : Nat} {z : Nat → Nat} {k e : Nat} (h : bE n z k e = 0) : bL n z k e = resV T63 z k e ∧ bK n z k e = resK T63 z k e + resV T63 z k e ∧ resE T63 z k e = 0 ∧ resV T63 z k e ≤ 4096 ∧ resV T63 z k e ≤ n - resK T63 z k e := by
  unfold bL bK
  rw [if_pos h, if_pos h]
  unfold bE at h
  split at h
  · split at h
    · split at h
      · rename_i h1 h2 h3; exact ⟨rfl, rfl, h1, h2, h3⟩
      · cases h
    · cases h
  · rename_i h1; exact absurd h h1
theorem bE_wrong {n : Nat} {z : Nat → Nat} {k e : Nat} (h : ¬ resE T63 z k e = 0) : bE n z k e = resE T63 z k e := by unfold bE; rw [if_neg h]
theorem bE_long {n : Nat} {z : Nat → Nat} {k e : Nat} (h : resE T63 z k e = 0) (h2 : ¬ resV T63 z k e ≤ 4096) : bE n z k e = 2 := by unfold bE; rw [if_pos h, if_neg h2]
theorem bE_short {n : Nat} {z : Nat → Nat} {k e : Nat} (h : resE T63 z k e = 0) (h2 : resV T63 z k e ≤ 4096) (h3 : ¬ resV T63 z k e ≤ n - resK T63 z k e) : bE n z k e = 6 := by unfold bE; rw [if_pos h, if_pos h2, if_neg h3]
theorem bE_fine {n : Nat} {z : Nat → Nat} {k e : Nat} (h : resE T63 z k e = 0) (h2 : resV T63 z k e ≤ 4096) (h3 : resV T63 z k e ≤ n - resK T63 z k e) : bE n z k e = 0 := by unfold bE; rw [if_pos h, if_pos h2, if_pos h3]
def BytesPost (B n : Nat) (x : Value) (z : Nat → Nat) (k e : Nat) (w : World) (en : Ending) (w' : World) : Prop :=
  ∃ y, en = .returned (.tuple #[y, .int .i64 (bE n z k e : Int)]) ∧ RowV w' y (bL n z k e) (fun i => z (resK T63 z k e + i)) ∧ w'.ownsRow w.heap.size /-t-/5 1 y (bL n z k e) (bytesL (bL n z k e) (fun i => z (resK T63 z k e + i))) ∧
    ∃ x', InIs w' B x' (n - bK n z k e) (fun i => z (bK n z k e + i)) ∧ (∀ S, Off S x → Off S x') ∧ Ch (fun i => i = B) w w'
theorem owns_off {w : World} {base k : Nat} {v : Value} {xs : List Value} (h : w.ownsRow base /-t-/5 1 v k xs) : Off (fun i => i < base) v := fun b o m C e hb => by
  subst e
  have := (World.ownsRow.lt h b rfl).1
  omega
theorem bytes_bad {B n k e E : Nat} {x : Value} {z : Nat → Nat} {w w' : World} (hE : bE n z k e = E) (h0 : ¬ E = 0) (h : InIs w B x n z) (hch : Ch (fun _ => False) w w') :
    BytesPost B n x z k e w (.returned (.tuple #[.slice none 0 0, .int .i64 (E : Int)])) w' := by
  obtain ⟨h1, h2⟩ := b_bad (hE ▸ h0)
  refine ⟨.slice none 0 0, by rw [hE], by rw [h1]; exact nil_row _ _, by rw [h1]; exact World.ownsRow_nil _ _ _ _, x, ?_, fun S h => h, hch.toN⟩
  rw [h2]
  exact (h.gr hch).congr (by omega) (fun i _ => by rw [Nat.zero_add])
theorem ahead_is {w : World} {B n : Nat} {x : Value} {z : Nat → Nat} (h : InIs w B x n z) : InIs (w.alloc (.cells #[x] 73)) w.heap.size x n z := by
  exact ⟨Boxed.new w _ _, h.row.gr ((Ch.refl _ w).alloc _ _), h.nn⟩
theorem Ch.newer {w w1 w2 : World} {B : Nat} (h : Ch (fun _ => False) w w1) (k : Ch (fun i => i = B) w1 w2) (hB : w.heap.size ≤ B) : Ch (fun _ => False) w w2 := h.new (k.mono (fun i _ e => by rw [e]; exact hB))
theorem bytes_good {B n k e K V : Nat} {x x' v : Value} {z : Nat → Nat} {w w1 w3 : World} (hE : bE n z k e = 0) (hL : bL n z k e = V) (hK : bK n z k e = K + V) (hKK : K = resK T63 z k e) (h : InIs w B x n z) (hch1 : Ch (fun _ => False) w w1)
    (hx : RowV w1 x' (n - K - V) (fun i => z (K + (V + i)))) (hnn : NN x') (hoff : Off (fun i => i = B) x') (hoff2 : ∀ S, Off S x → Off S x')
    (hv : w3.ownsRow (w1.setCell ⟨B, 0, none⟩ x').heap.size /-t-/5 1 v V (bytesL V (fun i => z (K + i)))) (hc : Ch (fun _ => False) (w1.setCell ⟨B, 0, none⟩ x') w3) (hby : Bytes V (fun i => z (K + i))) (hV : V ≤ 4096) :
    BytesPost B n x z k e w (.returned (.tuple #[v, .int .i64 0])) w3 := by
  have h1 := h.gr hch1
  have hs := (set_ch w1 B x').size
  refine ⟨v, by rw [hE]; rfl, ?_, by rw [hL, ← hKK]; exact ownsRow_low hv (Nat.le_trans hch1.size hs), x', ?_, hoff2, (hch1.toS (p := ⟨B, 0, none⟩) rfl x').trans hc.toN⟩
  · rw [hL, ← hKK]; exact ownsRow_rowV hv (by omega) hby
  · have h2 : InIs (w1.setCell ⟨B, 0, none⟩ x') B x' (n - K - V) (fun i => z (K + (V + i))) := ⟨h1.box.set x', hx.off (set_ch w1 B x') hoff, hnn⟩
    refine (h2.gr hc).congr (by rw [hK]; omega) (fun i _ => by rw [hK, Nat.add_assoc])
set_option maxHeartbeats 1000000 in
theorem ibytes_any (B n : Nat) (x : Value) (z : Nat → Nat) (k e : Nat) (w : World) (h : InIs w B x n z) (hr : Rd n z k e) (hn : n ≤ 1048576) :
    Calls Try.prog 37 #[.pointer (some ⟨B, 0, none⟩)] w (BytesPost B n x z k e w) := by
  obtain ⟨A, C, rfl, hl, _⟩ := id h.row
  have HN := Lib.hid (inum_any w.heap.size n (.slice A n C) z k e _ (ahead_is h) hr)
  have HCA := Lib.hid (show Ch (fun _ => False) w (w.alloc (.cells #[.slice A n C] 73)) from (Ch.refl _ w).alloc _ _)
  have HC := Lib.hid h.cell
  have HH := Lib.hid h
  have hv : (resV T63 z k e : Int) ≤ 9223372036854775807 := by have := resV_le T63 z k e; unfold T63 at this; unfold T63; omega
  have hBB : B < w.heap.size := h.box.lt
  by_cases hE : resE T63 z k e = 0
  · have t1 : ((resE T63 z k e : Int) != 0) = false := by simpa using hE
    by_cases h4 : resV T63 z k e ≤ 4096
    · have t2 : decide ((4096 : Int) < (resV T63 z k e : Int)) = false := by simp; omega
      by_cases h5 : resV T63 z k e ≤ n - resK T63 z k e
      · have HE := Lib.hid (bE_fine hE h4 h5)
        have HK := Lib.hid (b_ok (bE_fine hE h4 h5))
        obtain ⟨V, hV⟩ : ∃ V, V = resV T63 z k e := ⟨_, rfl⟩
        obtain ⟨K, hK⟩ : ∃ K, K = resK T63 z k e := ⟨_, rfl⟩
        obtain ⟨M, hM⟩ : ∃ M, M = n - K := ⟨_, rfl⟩
        rw [← hV] at HN HK t2 h4 h5 hv
        rw [← hK] at HN HK h5
        rw [← hM] at HK h5
        rw [hE] at HN
        have t3 : decide (M < V) = false := by simp; omega
        have HKK := Lib.hid hK
        have HMM := Lib.hid hM
        have hV4 := h4
        have hVM := h5
        clear hV hK hM t1
        clear h hl hr hE h4 h5
        go_enter Try.func37, Try.ntmps37
        go_wp2_with fail
        refine (rest_any B A n C _ HC.out).mono ?_
        rintro e' w' ⟨rfl, rfl⟩
        go_wp2_with fail
        refine HN.out.mono ?_
        rintro e' w1 ⟨rfl, x1, hx1, ho1, hch1⟩
        have HC1 := Lib.hid (HCA.out.newer hch1 (Nat.le_refl _))
        rw [← HMM.out] at hx1
        obtain ⟨A1, D, rfl, hl1, hr1⟩ := id hx1.row
        have HB1 := Lib.hid (HH.out.gr HC1.out)
        have ca := hx1.cell
        have cb := HB1.out.cell
        have fb := HB1.out.box.frozen
        have HX := Lib.hid hx1
        have hoB := ho1 _ HH.out.off
        have hl2 := hl1.1
        have hl3 := hl1.2
        have hq1 : ¬ w.heap.size = B := by omega
        have hq2 : ¬ B = w.heap.size := by omega
        cases A1 with
        | none =>
          have hM : M = 0 := by
            rcases Nat.eq_zero_or_pos M with q | q
            · exact q
            · obtain ⟨_, _, q, _⟩ := hr1 q; cases q
          obtain rfl := hx1.nn.1 _ _ rfl
          subst hM
          obtain rfl : V = 0 := by omega
          clear hx1 hr1 hl1 hch1
          go_wp2_with fail
          refine (left_any w.heap.size 0 _ _ _ HX.out).mono ?_
          rintro e' w' ⟨rfl, rfl⟩
          go_wp2_with fail
          refine (clone_any none 0 0 (fun i => z (K + i)) _ (nil_row _ _) (by omega)).mono ?_
          rintro e' w3 ⟨v, rfl, hv, hc⟩
          have HF := Lib.hid (bytes_good HE.out HK.out.1 HK.out.2.1 HKK.out HH.out HC1.out (x' := .slice none 0 0) (by rw [← HMM.out]; exact nil_row _ _) nn_none Off.zero ho1 hv hc (fun c hc => absurd hc (Nat.not_lt_zero c)) (by omega))
          clear hv hc
          go_wp2
          go_ret2
          exact HF.out
        | some ad =>
          obtain ⟨b, o, rfl⟩ := hx1.nn.2 _ _ _ rfl
          have HBY : Hid (Bytes V (fun i => z (K + i))) := fun c hc => hx1.row.bytes c (by omega)
          have hoB' : ∀ p m C', Off (fun i => i = B) (.slice (some ⟨b, p, none⟩) m C') ∨ M = 0 := fun p m C' => by
            rcases Nat.eq_zero_or_pos M with q | q
            · exact Or.inr q
            · exact Or.inl (hoB.part q)
          by_cases hD : D = V
          · subst hD
            obtain rfl : M = D := by omega
            have HT := Lib.hid (show RowV w1 (.slice (some ⟨b, o, none⟩) 0 0) (n - K - M) (fun i => z (K + (M + i))) by rw [← HMM.out, Nat.sub_self]; exact none_row _ _ _)
            have HO1 : Hid (Off (fun i => i = B) (.slice (some ⟨b, o, none⟩) 0 0)) := Off.zero
            have HO2 : Hid (∀ S, Off S (.slice A n C) → Off S (.slice (some ⟨b, o, none⟩) 0 0)) := fun S _ => Off.zero
            have HCL := Lib.hid (clone_any (some ⟨b, o, none⟩) M M (fun i => z (K + i)) _ (hx1.row.off (set_ch w1 B (.slice (some ⟨b, o, none⟩) 0 0)) hoB) (by omega))
            clear hx1 hr1 hl1 hch1 hoB hoB' ho1
            go_wp2_with fail
            refine (left_any w.heap.size M _ _ _ HX.out).mono ?_
            rintro e' w' ⟨rfl, rfl⟩
            go_wp2_with fail
            refine HCL.out.mono ?_
            rintro e' w3 ⟨v, rfl, hv, hc⟩
            have HF := Lib.hid (bytes_good HE.out HK.out.1 HK.out.2.1 HKK.out HH.out HC1.out HT.out (nn_some _ _ _ _) HO1.out HO2.out hv hc HBY.out hV4)
            clear hv hc
            go_wp2
            go_ret2
            exact HF.out
          · have HT := Lib.hid (show RowV w1 (.slice (some ⟨b, o + V, none⟩) (M - V) (D - V)) (n - K - V) (fun i => z (K + (V + i))) by rw [← HMM.out]; exact row_tail hx1.row hVM)
            have HO1 : Hid (Off (fun i => i = B) (.slice (some ⟨b, o + V, none⟩) (M - V) (D - V))) := by
              rcases Nat.eq_zero_or_pos M with q | q
              · rw [q, Nat.zero_sub]; exact Off.zero
              · exact hoB.part q
            have HO2 : Hid (∀ S, Off S (.slice A n C) → Off S (.slice (some ⟨b, o + V, none⟩) (M - V) (D - V))) := fun S hS => by
              rcases Nat.eq_zero_or_pos M with q | q
              · rw [q, Nat.zero_sub]; exact Off.zero
              · exact (ho1 S hS).part q
            have HCL := Lib.hid (clone_any (some ⟨b, o, none⟩) V D (fun i => z (K + i)) _ (row_front (hx1.row.off (set_ch w1 B (.slice (some ⟨b, o + V, none⟩) (M - V) (D - V))) hoB) hVM) (by omega))
            have e5 : ((M - V : Nat) : Int) = (M : Int) - (V : Int) := by omega
            have e6 : ((D - V : Nat) : Int) = (D : Int) - (V : Int) := by omega
            have t4 : (D : Int) - (V : Int) ≠ 0 := by omega
            clear hx1 hr1 hl1 hch1 hoB hoB' ho1
            go_wp2_with fail
            refine (left_any w.heap.size M _ _ _ HX.out).mono ?_
            rintro e' w' ⟨rfl, rfl⟩
            go_wp2_with fail
            refine HCL.out.mono ?_
            rintro e' w3 ⟨v, rfl, hv, hc⟩
            have HF := Lib.hid (bytes_good HE.out HK.out.1 HK.out.2.1 HKK.out HH.out HC1.out HT.out (nn_some _ _ _ _) HO1.out HO2.out hv hc HBY.out hV4)
            clear hv hc
            go_wp2
            go_ret2
            exact HF.out
      · have t3 : decide (n - resK T63 z k e < resV T63 z k e) = true := by simp; omega
        have HF := Lib.hid (fun w' : World => bytes_bad (w' := w') (bE_short hE h4 h5) (by decide) h)
        clear h hl hr h4 h5 hE
        go_enter Try.func37, Try.ntmps37
        go_wp2_with fail
        refine (rest_any B A n C _ HC.out).mono ?_
        rintro e' w' ⟨rfl, rfl⟩
        go_wp2_with fail
        refine HN.out.mono ?_
        rintro e' w1 ⟨rfl, x1, hx1, ho1, hch1⟩
        have HC1 := Lib.hid (HCA.out.newer hch1 (Nat.le_refl _))
        have HX := Lib.hid hx1
        clear hx1 ho1 hch1
        go_wp2_with fail
        refine (left_any w.heap.size _ _ _ _ HX.out).mono ?_
        rintro e' w' ⟨rfl, rfl⟩
        go_wp2
        go_ret2
        exact HF.out _ HC1.out
    · have t2 : decide ((4096 : Int) < (resV T63 z k e : Int)) = true := by simp; omega
      have HF := Lib.hid (fun w' : World => bytes_bad (w' := w') (bE_long hE h4) (by decide) h)
      clear h hl hr h4 hE
      go_enter Try.func37, Try.ntmps37
      go_wp2_with fail
      refine (rest_any B A n C _ HC.out).mono ?_
      rintro e' w' ⟨rfl, rfl⟩
      go_wp2_with fail
      refine HN.out.mono ?_
      rintro e' w1 ⟨rfl, x1, hx1, ho1, hch1⟩
      have HC1 := Lib.hid (HCA.out.newer hch1 (Nat.le_refl _))
      clear hx1 ho1 hch1
      go_wp2
      go_ret2
      exact HF.out _ HC1.out
  · have t1 : ((resE T63 z k e : Int) != 0) = true := by simpa using hE
    have HF := Lib.hid (fun w' : World => bytes_bad (w' := w') (bE_wrong hE) hE h)
    clear h hl hr hv
    go_enter Try.func37, Try.ntmps37
    go_wp2_with fail
    refine (rest_any B A n C _ HC.out).mono ?_
    rintro e' w' ⟨rfl, rfl⟩
    go_wp2_with fail
    refine HN.out.mono ?_
    rintro e' w1 ⟨rfl, x1, hx1, ho1, hch1⟩
    have HC1 := Lib.hid (HCA.out.newer hch1 (Nat.le_refl _))
    clear hx1 ho1 hch1
    go_wp2
    go_ret2
    exact HF.out _ HC1.out
#print axioms ibytes_any
end Go.Proofs.Ytkpahhioiefcbaa
namespace Go.Proofs.Ytkpahhioiefcbaa
open Go.RowKit
set_option linter.unusedVariables false
set_option maxRecDepth 100000

theorem RowV.ch' {w w' : World} {S : Nat → Prop} {b o n C : Nat} {z : Nat → Nat} (h : RowV w (.slice (some ⟨b, o, none⟩) n C) n z) (k : Ch S w w') (hb : ¬ S b) : RowV w' (.slice (some ⟨b, o, none⟩) n C) n z := by
  obtain ⟨A1, c1, e1, g1, g2⟩ := h
  injection e1 with e1 _ e2
  subst e1
  subst e2
  refine ⟨_, _, rfl, g1, fun h0 => ?_⟩
  obtain ⟨b', o', e, g3⟩ := g2 h0
  have e' := e
  injection e' with e'
  injection e' with e1 e2
  subst e1
  subst e2
  exact ⟨_, _, rfl, fun j hj => ⟨k.cell (g3 j hj).1 hb, (g3 j hj).2⟩⟩
/-- Bytes of one's own: a slice of a block of bytes, made behind w. -/
structure OwnB (w wr : World) (v : Value) (n : Nat) (z : Nat → Nat) (sb so sC : Nat) : Prop where
  eq : v = .slice (some ⟨sb, so, none⟩) n sC
  row : RowV wr (.slice (some ⟨sb, so, none⟩) n sC) n z
  blk : ∃ c, wr.heap[sb]? = some (.cells c /-t-/5 (0, 0))
  lo : w.heap.size ≤ sb
theorem OwnB.ch {S : Nat → Prop} {w wr w' : World} {v : Value} {n sb so sC : Nat} {z : Nat → Nat} (h : OwnB w wr v n z sb so sC) (k : Ch S wr w') (hS : ¬ S sb) : OwnB w w' v n z sb so sC := by
  obtain ⟨c, hc⟩ := h.blk
  exact ⟨h.eq, h.row.ch' k hS, ⟨c, (k.block sb (blk_lt hc) hS).trans hc⟩, h.lo⟩
theorem own_gr {w w' : World} {base : Nat} {e : TypeId} {sz : Nat} {v : Value} {n : Nat} {xs : List Value} (h : w.ownsRow base e sz v n xs) (k : Ch (fun _ => False) w w') : w'.ownsRow base e sz v n xs :=
  own_of h (fun i hi => by obtain ⟨_, c, hc⟩ := own_at h hi; exact k.block i (blk_lt hc) (fun f => f))
theorem owns_some {w : World} {base n : Nat} {v : Value} {xs : List Value} (h : w.ownsRow base /-t-/5 1 v n xs) (hn : 0 < n) : ∃ g C, v = .slice (some ⟨g, 0, none⟩) n C ∧ n ≤ C := by
  rcases h.2 with ⟨_, h0⟩ | ⟨g, cap, cur, rfl, _, _, hc, _⟩
  · omega
  · exact ⟨g, cap, rfl, hc⟩
theorem own_slice {w : World} {base n : Nat} {v : Value} {xs : List Value} (h : w.ownsRow base /-t-/5 1 v n xs) : ∃ A C, v = .slice A n C := by
  rcases h.2 with ⟨rfl, h0⟩ | ⟨g, cap, cur, rfl, _⟩
  · subst h0; exact ⟨_, _, rfl⟩
  · exact ⟨_, _, rfl⟩

/-! ### rows of bytes -/
structure BsV (w : World) (A : Option Addr) (k C : Nat) (N : Nat → Nat) (Z : Nat → Nat → Nat) : Prop where
  le : k ≤ 140737488351232
  cap : k ≤ C
  at' : 0 < k → ∃ b o, A = some ⟨b, o, none⟩ ∧ ∀ c, c < k → ∃ A' C', w.cell? ⟨b, o + c, none⟩ = some (.slice A' (N c) C') ∧ RowV w (.slice A' (N c) C') (N c) (Z c)
theorem BsV.ch {S : Nat → Prop} {w w' : World} {A : Option Addr} {k C : Nat} {N : Nat → Nat} {Z : Nat → Nat → Nat} (h : BsV w A k C N Z) (g : Ch S w w') (hS : ∀ i, i < w.heap.size → ¬ S i) : BsV w' A k C N Z :=
  ⟨h.le, h.cap, fun h0 => by
    obtain ⟨b, o, hA, hc⟩ := h.at' h0
    refine ⟨b, o, hA, fun c hck => ?_⟩
    obtain ⟨A', C', h1, h2⟩ := hc c hck
    exact ⟨A', C', g.cell h1 (hS _ (World.block_lt_of_cell? _ _ h1)), h2.ch g hS⟩⟩
theorem BsV.gr {w w' : World} {A : Option Addr} {k C : Nat} {N : Nat → Nat} {Z : Nat → Nat → Nat} (h : BsV w A k C N Z) (g : Ch (fun _ => False) w w') : BsV w' A k C N Z := h.ch g (fun _ _ f => f)

theorem own_new {w wr w2 : World} {n C : Nat} {A : Option Addr} {z : Nat → Nat} (h : w2.ownsRow wr.heap.size /-t-/5 1 (.slice A n C) n (bytesL n z)) (hn : 0 < n) (hn2 : n ≤ 1000000) (hz : Bytes n z) (hc : w.heap.size ≤ wr.heap.size) : ∃ g, A = some ⟨g, 0, none⟩ ∧ OwnB w w2 (.slice A n C) n z g 0 C := by
  have hr := ownsRow_rowV h (by omega) hz
  obtain ⟨g, C', e, _⟩ := owns_some h hn
  injection e with e1 _ e2
  subst e1
  obtain ⟨hg, hb⟩ := own_at h (i := g) rfl
  exact ⟨g, rfl, ⟨rfl, hr, hb, Nat.le_trans hc hg⟩⟩
/-- Bytes of one's own, or none. -/
def RowN (w wr : World) (u : Value) (n : Nat) (z : Nat → Nat) : Prop := ∃ A C, u = .slice A n C ∧ n ≤ C ∧ (n = 0 ∨ ∃ sb so, OwnB w wr u n z sb so C)
theorem RowN.ch {S : Nat → Prop} {w wr w' : World} {u : Value} {n : Nat} {z : Nat → Nat} (h : RowN w wr u n z) (k : Ch S wr w') (hS : ∀ i, S i → w.heap.size ≤ i → ¬ ∃ c, wr.heap[i]? = some (.cells c /-t-/5 (0, 0))) : RowN w w' u n z := by
  obtain ⟨A, C, h1, h2, h3⟩ := h
  refine ⟨A, C, h1, h2, h3.elim Or.inl fun ⟨sb, so, q⟩ => Or.inr ⟨sb, so, q.ch k fun hs => hS sb hs q.lo q.blk⟩⟩
theorem RowN.row {w wr : World} {u : Value} {n : Nat} {z : Nat → Nat} (h : RowN w wr u n z) : RowV wr u n z := by
  obtain ⟨A, C, h1, h2, h3⟩ := h
  rcases h3 with rfl | ⟨sb, so, q⟩
  · exact ⟨A, C, h1, ⟨by omega, h2⟩, fun q => absurd q (Nat.lt_irrefl 0)⟩
  · rw [q.eq]; exact q.row
theorem RowN.own {w wr w2 : World} {v : Value} {n : Nat} {z : Nat → Nat} (h : w2.ownsRow wr.heap.size /-t-/5 1 v n (bytesL n z)) (hn2 : n ≤ 1000000) (hz : Bytes n z) (hc : w.heap.size ≤ wr.heap.size) : RowN w w2 v n z := by
  obtain ⟨A, C, rfl⟩ := own_slice h
  obtain ⟨_, C', e, h2, _⟩ := ownsRow_rowV h (by omega) hz
  injection e with _ _ e
  subst e
  refine ⟨A, C, rfl, h2.2, ?_⟩
  by_cases q : n = 0
  · exact Or.inl q
  · obtain ⟨g, rfl, hb⟩ := own_new h (by omega) hn2 hz hc
    exact Or.inr ⟨g, 0, hb⟩
end Go.Proofs.Ytkpahhioiefcbaa
