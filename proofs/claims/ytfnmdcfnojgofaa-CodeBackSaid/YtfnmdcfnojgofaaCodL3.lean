/-
  CodeGets, walked.
-/
import Derived.Test.YtfnmdcfnojgofaaCodW
namespace Go.Proofs.Ytfnmdcfnojgofaa
open Go.RowKit Go.Shelf Cod
set_option linter.unusedVariables false

/-! ### a copy of as many bytes as there may be -/
theorem app_big {w : World} {x : Value} {l : Nat} {y : Nat → Nat} (h : RowV (w.alloc (.cells #[] /-t-/5)) x l y) :
    ∃ v' w', (Builtin.append_ #[ /-t-/26, /-t-/26] /-t-/26 #[.slice (some ⟨w.heap.size, 0, none⟩) 0 0, x]).run Try.prog (w.alloc (.cells #[] /-t-/5)) = .ok v' w' ∧ w'.ownsRow w.heap.size /-t-/5 1 v' l (bytesL l y) ∧ Ch (fun _ => False) w w' := by
  obtain ⟨A, C, rfl, hb2, hc⟩ := h
  obtain ⟨j0, gi, gz0, gz1, gz2⟩ := info_parts Try.info5
  have hch0 := (Ch.refl (fun _ => False) w).alloc #[] /-t-/5
  cases A with
  | none =>
    have h0 : l = 0 := by
      by_cases q : 0 < l
      · obtain ⟨b, o, e, _⟩ := hc q; cases e
      · omega
    subst h0
    exact ⟨_, _, append_none _ _ 0 0 C (fun e => by cases e) (Nat.le_refl _) _, none_owned w, hch0⟩
  | some ad =>
    have hcells : ∀ j u, (bytesL l y)[j]? = some u → (w.alloc (.cells #[] /-t-/5)).cell? (ad.add j) = some u := fun j u hu => by
      by_cases q : j < l
      · obtain ⟨b, o, e, h2⟩ := hc (by omega)
        injection e with e
        subst e
        rw [add_pl, (h2 j q).1]
        rw [bytesL_get q] at hu
        exact hu
      · rw [bytesL_none q] at hu
        cases hu
    obtain ⟨v', w', hr, h2, h3, _, h5⟩ := run_append_own_at (P := Try.prog) (w.alloc (.cells #[] /-t-/5)) w.heap.size /-t-/26 /-t-/26 /-t-/5 j0 (.int .u8 0) 1 1 Try.underlying26 gi gz0 gz1 gz2 rfl (by decide) _ 0 (bytesL 0 fun _ => 0) (none_owned w) ad l C (bytesL l y) (by rw [bytesL_len, Nat.mul_one]) hcells
      bytesL_one (by unfold maxLen; omega) (by omega) (by simp)
    rw [bytesL_join, Nat.zero_add, bytesL_congr (y := y) fun c hc => by unfold jnZ; rw [if_neg (by omega)]; rfl] at h2
    exact ⟨v', w', hr, h2, hch0.grown h3 (fun i e => Or.inr (World.ownsRow.lt (none_owned w) i e).1)⟩
set_option maxHeartbeats 400000 in
theorem clone_big (A : Option Addr) (n C : Nat) (z : Nat → Nat) (w : World) (h : RowV w (.slice A n C) n z) : Calls Try.prog 28 #[.slice A n C] w (NewL n z w) := by
  cases A with
  | none =>
    obtain ⟨_, _, e, _, h2⟩ := h
    injection e with e1 _ _
    subst e1
    rcases Nat.eq_zero_or_pos n with rfl | q
    · exact clone_nil C w z
    · obtain ⟨_, _, e, _⟩ := h2 q
      cases e
  | some ad =>
    obtain ⟨v1, w1, hr1, ho1, hc1⟩ := app_big (h.gr ((Ch.refl (fun _ => False) w).alloc #[] /-t-/5))
    have HR := Lib.hid hr1
    have HO := Lib.hid ho1
    have HC := Lib.hid hc1
    clear hr1 ho1 hc1 h
    have q := eql_nil w (some ad) n C
    go_enter Try.func28, Try.ntmps28
    go_wp2_with (at_builtin; refine wpList_app_of _ rfl (.tmp 5) (.tmp 6) rfl rfl _ _ v1 w1 rfl rfl HR.out ?_)
    go_ret
    exact ⟨_, rfl, HO.out, HC.out⟩
set_option maxHeartbeats 400000 in
theorem newIn_big (A : Option Addr) (n C : Nat) (z : Nat → Nat) (w : World) (h : RowV w (.slice A n C) n z) : Calls Try.prog 16 #[.slice A n C] w fun e w' => ∃ B, e = .returned (.pointer (some ⟨B, 0, none⟩)) ∧ Ch (fun _ => False) w w' := by
  have HR := Lib.hid (clone_big A n C z w h)
  obtain ⟨_, _, e0, hl, _⟩ := h
  have HL := Lib.hid hl.1
  have HB := Lib.hid True.intro
  clear e0 hl
  go_enter Try.func16, Try.ntmps16
  go_wp2_with fail
  refine HR.out.mono ?_
  rintro e w1 ⟨x, rfl, h1, h2⟩
  have hx : ∃ A1 m1 C1, x = .slice A1 m1 C1 := by
    rcases h1.2 with ⟨rfl, _⟩ | ⟨g, cap, cur, rfl, _⟩
    · exact ⟨_, _, _, rfl⟩
    · exact ⟨_, _, _, rfl⟩
  obtain ⟨A1, m1, C1, rfl⟩ := hx
  have H2 := Lib.hid h2
  clear h1 h2
  go_wp2
  go_ret
  exact ⟨_, rfl, H2.out.alloc _ _⟩
#print axioms newIn_big

/-! ### numbers that are handed in -/
def RowI (w : World) (v : Value) (m : Nat) (q : Nat → Int) : Prop :=
  ∃ (A : Option Addr) (C : Nat), v = .slice A m C ∧ (m ≤ 140737488351232 ∧ m ≤ C) ∧ (0 < m → ∃ b o, A = some ⟨b, o, none⟩ ∧ ∀ c, c < m → w.cell? ⟨b, o + c, none⟩ = some (.int .i64 (q c)))
theorem RowI.at {w w' : World} {A : Option Addr} {m C : Nat} {q : Nat → Int} (h : RowI w (.slice A m C) m q) (k : Ch (fun _ => False) w w') {i : Nat} (hi : i < m) : ∃ b o, A = some ⟨b, o, none⟩ ∧ w'.cell? ⟨b, o + i, none⟩ = some (.int .i64 (q i)) := by
  obtain ⟨_, _, e, _, h3⟩ := h
  injection e with e _ _
  subst e
  obtain ⟨b, o, rfl, h4⟩ := h3 (by omega)
  exact ⟨b, o, rfl, k.cell (h4 i hi) (fun f => f)⟩

/-! ### the rounds -/
structure GetsSt (w W : World) (B : Nat) (x y : Value) (N : Nat) (z : Nat → Nat) : Prop where
  inn : InIs W B x N z
  left : RowV W y N z
  nn : NN y
  off : Off (fun i => i = B) y
  ch : Ch (fun _ => False) w W
  low : w.heap.size ≤ B
  few : N ≤ 6000
theorem GetsSt.next {w W W3 : World} {B N K : Nat} {x y x' y' : Value} {z : Nat → Nat} (h : GetsSt w W B x y N z) (hi : InIs W3 B x' (N - K) (fun i => z (K + i))) (hc : Ch (fun i => i = B) W W3) {d : Nat}
    (hl : RowV W3 y' (N - K) (fun i => z (K + i))) (hn : NN y') (ho : ∀ S, Off S y → Off S y') : GetsSt w (W3.drewN d) B x' y' (N - K) (fun i => z (K + i)) :=
  ⟨hi.gr ((Ch.refl _ _).drewN d), hl.drewN d, hn, ho _ h.off, (h.ch.newer hc h.low).drewN d, h.low, by have := h.few; omega⟩
theorem GetsSt.nextB {w W W3 W4 : World} {B N K : Nat} {x y x' y' : Value} {z : Nat → Nat} (h : GetsSt w W B x y N z) (hi : InIs W3 B x' (N - K) (fun i => z (K + i))) (hc : Ch (fun i => i = B) W W3)
    (hl : RowV W4 y' (N - K) (fun i => z (K + i))) (hn : NN y') (ho : ∀ S, Off S y → Off S y') (h4 : Ch (fun _ => False) W3 W4) : GetsSt w W4 B x' y' (N - K) (fun i => z (K + i)) :=
  ⟨hi.gr h4, hl, hn, ho _ h.off, (h.ch.newer hc h.low).trans h4, h.low, by have := h.few; omega⟩
theorem GetsSt.drew {w W : World} {B N : Nat} {x y : Value} {z : Nat → Nat} (h : GetsSt w W B x y N z) (d : Nat) : GetsSt w (W.drewN d) B x y N z :=
  ⟨h.inn.gr ((Ch.refl _ _).drewN d), h.left.drewN d, h.nn, h.off, h.ch.drewN d, h.low, h.few⟩
theorem eqB_self (n : Nat) (z : Nat → Nat) : eqB n n z z = true := decide_eq_true ⟨rfl, fun _ _ => rfl⟩
set_option maxHeartbeats 4000000 in
set_option maxRecDepth 100000 in
theorem codeGets_of (va vl : Value) (w : World) {n : Nat} {z : Nat → Nat} {m : Nat} {q : Nat → Int} (ha : RowV w va n z) (hq : RowI w vl m q) : Calls Try.prog 4 #[va, vl] w (Told w) := by
  obtain ⟨A, C, rfl, hl, _⟩ := id ha
  obtain ⟨D, F, rfl, hm, _⟩ := id hq
  have hl1 := hl.1
  have hm1 := hm.1
  have HV := Lib.hid ha
  have HQ := Lib.hid hq
  clear ha hq hl hm
  by_cases h : n ≤ 6000
  case neg =>
    have t1 : decide ((6000 : Int) < (n : Int)) = true := by simp; omega
    clear h
    go_enter Try.func4, Try.ntmps4
    go_wp2_with fail
    refine (awake_any _).mono ?_
    rintro e w1 ⟨rfl, hch1⟩
    have HC1 := Lib.hid hch1
    clear hch1
    go_wp2_with fail
    refine (newIn_big _ _ _ z _ (HV.out.gr HC1.out)).mono ?_
    rintro e w2 ⟨B, rfl, hch2⟩
    go_wp2
    go_ret
    exact ⟨rfl, HC1.out.trans hch2⟩
  have t1 : decide ((6000 : Int) < (n : Int)) = false := by simp; omega
  by_cases h2 : m ≤ 60
  case neg =>
    have t2 : decide ((60 : Int) < (m : Int)) = true := by simp; omega
    clear h h2
    go_enter Try.func4, Try.ntmps4
    go_wp2_with fail
    refine (awake_any _).mono ?_
    rintro e w1 ⟨rfl, hch1⟩
    have HC1 := Lib.hid hch1
    clear hch1
    go_wp2_with fail
    refine (newIn_big _ _ _ z _ (HV.out.gr HC1.out)).mono ?_
    rintro e w2 ⟨B, rfl, hch2⟩
    go_wp2
    go_ret
    exact ⟨rfl, HC1.out.trans hch2⟩
  have t2 : decide ((60 : Int) < (m : Int)) = false := by simp; omega
  go_enter Try.func4, Try.ntmps4
  go_wp2_with fail
  refine (awake_any _).mono ?_
  rintro e w1 ⟨rfl, hch1⟩
  have HC1 := Lib.hid hch1
  clear hch1
  go_wp2_with fail
  refine (newIn_any _ n _ z _ (HV.out.gr HC1.out) (by omega)).mono ?_
  rintro e w2 ⟨B, x, rfl, hx2, hB2, hch2⟩
  have hc2 := HC1.out.trans hch2
  obtain ⟨v3, w3, hr3, ho3, hch3⟩ := app_copy (HV.out.gr hc2) (by omega)
  have hv3 := ownsRow_rowV ho3 (by omega) (HV.out.bytes)
  obtain ⟨A3, C3, rfl, _⟩ := id hv3
  have HS0 := Lib.hid (show GetsSt w w3 B x (.slice A3 n C3) n z from ⟨hx2.gr hch3, hv3, owns_nn ho3, (owns_off ho3).mono (fun i hi => by have := hx2.box.lt; omega), hc2.trans hch3, Nat.le_trans HC1.out.size hB2, h⟩)
  have HR := Lib.hid hr3
  clear h h2 hx2 hB2 hch2 hc2 hr3 ho3 hch3 hv3 HC1
  go_wp2_with (at_builtin; refine wpList_app_of _ rfl (.const (.slice none 0 0)) (.tmp 40) rfl rfl (.slice none 0 0) (.slice A n C) (.slice A3 n C3) w3 rfl rfl HR.out ?_)
  clear HR
  go_loopw [7, 8] (fun y i wr => ∃ i' : Nat, i' ≤ m ∧ i = .int .i64 i' ∧ ∃ YA YC N zz x, y = .slice YA N YC ∧ Hid (GetsSt w wr B x (.slice YA N YC) N zz)) (fun _ i _ => m - (intOf i).toNat)
  case atStart => exact ⟨0, Nat.zero_le _, rfl, A3, C3, n, z, x, rfl, HS0⟩
  case round =>
    obtain ⟨i, hi, rfl, YA, YC, N, zz, x, rfl, HS⟩ := hrel
    clear HS0
    by_cases hlt : i < m
    · obtain ⟨b, o, rfl, c1⟩ := HQ.out.at HS.out.ch hlt
      obtain ⟨k, e, hr⟩ := rd_some N zz
      obtain ⟨Q, hQ⟩ : ∃ Q, Q = q i := ⟨_, rfl⟩
      rw [← hQ] at c1
      clear hQ
      by_cases h0 : Q = 0
      · subst h0
        have HG := Lib.hid (inum_any B N x zz k e _ HS.out.inn hr)
        have HRG := Lib.hid (fun W (hc : Ch (fun i => i = B) wr W) => rgetnum_any YA N YC zz k e W (HS.out.left.off hc HS.out.off) HS.out.nn hr)
        obtain ⟨V, hV⟩ : ∃ V, V = resV T63 zz k e := ⟨_, rfl⟩
        obtain ⟨E, hE⟩ : ∃ E, E = resE T63 zz k e := ⟨_, rfl⟩
        obtain ⟨K, hK⟩ : ∃ K, K = resK T63 zz k e := ⟨_, rfl⟩
        rw [← hV, ← hE, ← hK] at HG HRG
        clear hV hE hK hr
        go_wp2_with fail
        refine HG.out.mono ?_
        rintro e' w3 ⟨rfl, x3, h3, ho3, hch3⟩
        go_wp2_with fail
        refine (HRG.out _ hch3).mono ?_
        rintro e' w4 ⟨y4, d4, rfl, rfl, hy4, hn4, ho4⟩
        have HST := Lib.hid (HS.out.next (d := d4) h3 hch3 hy4 hn4 ho4)
        obtain ⟨A4, C4, rfl, hl4, _⟩ := id hy4
        have hl41 := hl4.1
        clear h3 ho3 hch3 hy4 hn4 ho4 hl4 HS HRG HG
        go_wp2_with fail
        refine (same_any _ _ _ _ _ _ _ _ _ (nil_row _ zz) (nil_row _ zz)).mono ?_
        rintro e' w5 ⟨rfl, d5, rfl⟩
        rw [eqB_self]
        have HST5 := Lib.hid (HST.out.drew d5)
        rw [World.drewN_drewN] at HST5
        clear HST
        go_wp2_with fail
        refine (left_any B _ _ _ _ HST5.out.inn).mono ?_
        rintro e' w6 ⟨rfl, rfl⟩
        go_wp2
        go_roundw
        case rel => exact ⟨i + 1, by omega, by go_num, A4, C4, N - K, _, _, rfl, HST5⟩
        case measure => simp [intOf]; omega
      by_cases h1 : Q = 1
      · subst h1
        clear h0
        have HG := Lib.hid (iint_any B N x zz k e _ HS.out.inn hr)
        have HRG := Lib.hid (fun W (hc : Ch (fun i => i = B) wr W) => rgetint_any YA N YC zz k e W (HS.out.left.off hc HS.out.off) HS.out.nn hr)
        obtain ⟨V, hV⟩ : ∃ V, V = backZ (resV T64 zz k e) := ⟨_, rfl⟩
        obtain ⟨E, hE⟩ : ∃ E, E = resE T64 zz k e := ⟨_, rfl⟩
        obtain ⟨K, hK⟩ : ∃ K, K = resK T64 zz k e := ⟨_, rfl⟩
        rw [← hV, ← hE, ← hK] at HG HRG
        clear hV hE hK hr
        go_wp2_with fail
        refine HG.out.mono ?_
        rintro e' w3 ⟨rfl, x3, h3, ho3, hch3⟩
        go_wp2_with fail
        refine (HRG.out _ hch3).mono ?_
        rintro e' w4 ⟨y4, d4, rfl, rfl, hy4, hn4, ho4⟩
        have HST := Lib.hid (HS.out.next (d := d4) h3 hch3 hy4 hn4 ho4)
        obtain ⟨A4, C4, rfl, hl4, _⟩ := id hy4
        have hl41 := hl4.1
        clear h3 ho3 hch3 hy4 hn4 ho4 hl4 HS HRG HG
        go_wp2_with fail
        refine (same_any _ _ _ _ _ _ _ _ _ (nil_row _ zz) (nil_row _ zz)).mono ?_
        rintro e' w5 ⟨rfl, d5, rfl⟩
        rw [eqB_self]
        have HST5 := Lib.hid (HST.out.drew d5)
        rw [World.drewN_drewN] at HST5
        clear HST
        go_wp2_with fail
        refine (left_any B _ _ _ _ HST5.out.inn).mono ?_
        rintro e' w6 ⟨rfl, rfl⟩
        go_wp2
        go_roundw
        case rel => exact ⟨i + 1, by omega, by go_num, A4, C4, N - K, _, _, rfl, HST5⟩
        case measure => simp [intOf]; omega
      have t5 : (Q == 0) = false := by simpa using h0
      have t6 : (Q == 1) = false := by simpa using h1
      clear h0 h1
      have HG := Lib.hid (ibytes_any B N x zz k e _ HS.out.inn hr (by have := HS.out.few; omega))
      have HRG := Lib.hid (fun W (hc : Ch (fun i => i = B) wr W) => rgetbytes_any YA N YC zz k e W (HS.out.left.off hc HS.out.off) HS.out.nn hr (by have := HS.out.few; omega))
      unfold BytesPost at HG
      unfold GBPost at HRG
      obtain ⟨V, hV⟩ : ∃ V, V = bL N zz k e := ⟨_, rfl⟩
      obtain ⟨E, hE⟩ : ∃ E, E = bE N zz k e := ⟨_, rfl⟩
      obtain ⟨K, hK⟩ : ∃ K, K = bK N zz k e := ⟨_, rfl⟩
      rw [← hV, ← hE, ← hK] at HG HRG
      clear hV hE hK hr
      go_wp2_with fail
      refine HG.out.mono ?_
      rintro e' w3 ⟨yv, rfl, hyr, hyo, x3, h3, ho3, hch3⟩
      go_wp2_with fail
      refine (HRG.out _ hch3).mono ?_
      rintro e' w4 ⟨v4, y4, rfl, hv4, hy4, hn4, ho4, hch4⟩
      have HST := Lib.hid (HS.out.nextB h3 hch3 hy4 hn4 ho4 hch4)
      obtain ⟨A4, C4, rfl, hl4, _⟩ := id hy4
      have hl41 := hl4.1
      have hyr4 := hyr.gr hch4
      obtain ⟨A5, C5, rfl, hl5, _⟩ := id hyr4
      obtain ⟨A6, C6, rfl, _, _⟩ := id hv4
      have HY5 := Lib.hid hyr4
      have HV4 := Lib.hid hv4
      clear h3 ho3 hch3 hy4 hn4 ho4 hl4 HS HRG HG hyr hyo hyr4 hv4 hch4 hl5
      go_wp2_with fail
      refine (same_any _ _ _ _ _ _ _ _ _ HY5.out HV4.out).mono ?_
      rintro e' w5 ⟨rfl, d5, rfl⟩
      rw [eqB_self]
      have HST5 := Lib.hid (HST.out.drew d5)
      clear HST HY5 HV4
      go_wp2_with fail
      refine (left_any B _ _ _ _ HST5.out.inn).mono ?_
      rintro e' w6 ⟨rfl, rfl⟩
      go_wp2
      go_roundw
      case rel => exact ⟨i + 1, by omega, by go_num, A4, C4, N - K, _, _, rfl, HST5⟩
      case measure => simp [intOf]; omega
    · obtain rfl : i = m := by omega
      have HC := Lib.hid HS.out.ch
      go_wp2
      go_ret
      exact ⟨rfl, HC.out⟩
#print axioms codeGets_of
end Go.Proofs.Ytfnmdcfnojgofaa
