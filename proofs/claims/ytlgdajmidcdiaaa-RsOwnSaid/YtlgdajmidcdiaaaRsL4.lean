/-
  RsOwn, walked.
-/
import Derived.Test.YtlgdajmidcdiaaaRsL0
namespace Go.Proofs.Ytlgdajmidcdiaaa
open Go.RowKit
set_option linter.unusedVariables false

theorem idx_all {L : Nat → Nat} {n : Nat} (h : ∀ i, i < n → 0 < L i) : (idx L n).length = n := by
  induction n with
  | zero => rfl
  | succ n ih => rw [idx_yes (h n (by omega)), List.length_append, ih fun i hi => h i (by omega)]; rfl
/-- Rows of bytes in blocks of which nothing is frozen; their list lies elsewhere. -/
structure Soft (w : World) (g N l : Nat) (B O D : Nat → Nat) : Prop where
  top : ∀ r, r < N → w.cell? ⟨g, r, none⟩ = some (.slice (some ⟨B r, O r, none⟩) l (D r))
  off : ∀ r, r < N → B r ≠ g
  row : ∀ r, r < N → ∃ cs t, w.heap[B r]? = some (.cells cs t (0, 0)) ∧ ∀ c, c < l → ∃ x : Nat, cs[O r + c]? = some (.int .u8 (x : Int)) ∧ x < 256
theorem Soft.at {w : World} {g N l : Nat} {B O D : Nat → Nat} (h : Soft w g N l B O D) {r c : Nat} (hr : r < N) (hc : c < l) : ∃ x : Nat, w.cell? ⟨B r, O r + c, none⟩ = some (.int .u8 (x : Int)) ∧ x < 256 ∧ w.frozen? ⟨B r, O r + c, none⟩ = false := by
  obtain ⟨cs, t, hb, hx⟩ := h.row r hr
  obtain ⟨x, hxc, hx8⟩ := hx c hc
  exact ⟨x, by simp [World.cell?, hb, hxc], hx8, by simp [World.frozen?, hb]⟩
theorem Soft.set {w : World} {g N l : Nat} {B O D : Nat → Nat} (h : Soft w g N l B O D) {r : Nat} (hr : r < N) (o y : Nat) (hy : y < 256) : Soft (w.drew.setCell ⟨B r, o, none⟩ (.int .u8 (y : Int))) g N l B O D := by
  refine ⟨fun q hq => ?_, h.off, fun q hq => ?_⟩
  · rw [World.cell?_setCell_other _ _ _ _ (fun e => h.off r hr (congrArg Addr.block e))]
    exact h.top q hq
  · obtain ⟨cs, t, hb, hx⟩ := h.row q hq
    by_cases e : B q = B r
    · refine ⟨cs.setIfInBounds o (.int .u8 (y : Int)), t, ?_, fun c hc => ?_⟩
      · rw [e] at hb ⊢
        show (w.setCell ⟨B r, o, none⟩ (.int .u8 (y : Int))).heap[B r]? = some (.cells (cs.setIfInBounds o (.int .u8 (y : Int))) t (0, 0))
        simp [World.setCell, Array.getElem?_modify, hb]
      · obtain ⟨x, hxc, hx8⟩ := hx c hc
        rw [Array.getElem?_setIfInBounds]
        by_cases q2 : o = O q + c
        · have hlt : o < cs.size := by rw [q2]; exact (Array.getElem?_eq_some_iff.1 hxc).1
          exact ⟨y, by rw [if_pos q2, if_pos hlt], hy⟩
        · exact ⟨x, by rw [if_neg q2]; exact hxc, hx8⟩
    · exact ⟨cs, t, (Below.heap_setCell w.drew ⟨B r, o, none⟩ _ (B q) (fun e2 => e e2)).trans hb, hx⟩
theorem cell_back {w : World} {b o : Nat} {cs : Array Value} {t : TypeId} {fr : Nat × Nat} {v : Value} (hb : w.heap[b]? = some (.cells cs t fr)) (hc : w.cell? ⟨b, o, none⟩ = some v) : cs[o]? = some v := by
  simpa [World.cell?, hb] using hc
theorem bld_soft {base : Nat} {w : World} {v : Value} {N l : Nat} {Z : Nat → Nat → Nat} (h : Bld base w v N (fun _ => l) Z) (b1 : 1 ≤ base) (N0 : 0 < N) (l0 : 0 < l) : ∃ g C B O D, v = .slice (some ⟨g, 0, none⟩) N C ∧ Soft w g N l B O D ∧ base ≤ g ∧ ∀ r, r < N → base ≤ B r := by
  obtain ⟨xs, h1, h2⟩ := h
  rcases id h1.2 with ⟨rfl, h0⟩ | ⟨g, cap, cur, rfl, hbg, _⟩
  · omega
  · have key : ∀ r, r < N → ∃ b o D, w.cell? ⟨g, r, none⟩ = some (.slice (some ⟨b, o, none⟩) l D) ∧ b ≠ g ∧ base ≤ b ∧ ∃ cs t, w.heap[b]? = some (.cells cs t (0, 0)) ∧ ∀ c, c < l → ∃ x : Nat, cs[o + c]? = some (.int .u8 (x : Int)) ∧ x < 256 := fun r hr => by
      obtain ⟨x, hx, hv, ho⟩ := h2 r hr
      have hc := World.ownsRow.cells h1 (g := g) rfl r x hx
      rw [add_pl, Nat.zero_add] at hc
      obtain ⟨A, D, rfl, _, h3⟩ := hv
      obtain ⟨b, o, rfl, hcb⟩ := h3 l0
      obtain ⟨_, hne, hfar, hsoft⟩ := ho b rfl
      obtain ⟨cs, t, hb⟩ := hsoft b1
      exact ⟨b, o, D, hc, fun e => hne (by rw [e]; rfl), hfar, cs, t, hb, fun c hcl => ⟨Z r c, cell_back hb (hcb c hcl).1, (hcb c hcl).2⟩⟩
    have hB : ∃ B : Nat → Nat × Nat × Nat, ∀ r, r < N → w.cell? ⟨g, r, none⟩ = some (.slice (some ⟨(B r).1, (B r).2.1, none⟩) l (B r).2.2) ∧ (B r).1 ≠ g ∧ base ≤ (B r).1 ∧ ∃ cs t, w.heap[(B r).1]? = some (.cells cs t (0, 0)) ∧ ∀ c, c < l → ∃ x : Nat, cs[(B r).2.1 + c]? = some (.int .u8 (x : Int)) ∧ x < 256 := by
      refine ⟨fun r => if hr : r < N then ((key r hr).choose, (key r hr).choose_spec.choose, (key r hr).choose_spec.choose_spec.choose) else (0, 0, 0), fun r hr => ?_⟩
      have := (key r hr).choose_spec.choose_spec.choose_spec
      simp only [dif_pos hr]
      exact this
    obtain ⟨B, hB⟩ := hB
    exact ⟨g, cap, fun r => (B r).1, fun r => (B r).2.1, fun r => (B r).2.2, rfl, ⟨fun r hr => (hB r hr).1, fun r hr => (hB r hr).2.1, fun r hr => (hB r hr).2.2.2⟩, hbg, fun r hr => (hB r hr).2.2.1⟩
theorem u8_next (x : Nat) : ((x : Int) + 1) % 256 = (((x + 1) % 256 : Nat) : Int) := by omega
theorem Soft.next {w : World} {g N l : Nat} {B O D : Nat → Nat} (h : Soft w g N l B O D) {r : Nat} (hr : r < N) (o x : Nat) : Soft (w.drew.setCell ⟨B r, o, none⟩ (.int .u8 (((x : Int) + 1) % 256))) g N l B O D := by
  rw [u8_next]
  exact h.set hr o _ (Nat.mod_lt _ (by omega))
set_option maxHeartbeats 1600000 in
set_option maxRecDepth 100000 in
theorem rsOwn_short (va : Value) (n : Nat) (L : Nat → Nat) (X : Nat → Nat → Nat) (w : World) (ha : MatV w va n L X) (h : ¬ (lightB n L = true ∧ mayB n L = true)) : Calls Try.prog 7 #[va] w (Told w) := by
  obtain ⟨A, Ca, rfl, na, _⟩ := id ha
  have HA := Lib.hid ha
  have HH := Lib.hid h
  clear ha h
  go_enter Try.func7, Try.ntmps7
  go_wp2_with fail
  refine (awake_any _).mono ?_
  rintro e w1 ⟨rfl, hch1⟩
  have HA1 := Lib.hid (HA.out.gr hch1)
  have HC1 := Lib.hid hch1
  clear hch1
  go_wp2_with fail
  refine (light_any _ n L X _ HA1.out).mono ?_
  rintro e w2 ⟨rfl, rfl⟩
  go_wp2_with fail
  refine (rmay_any _ n L X _ HA1.out).mono ?_
  rintro e w3 ⟨rfl, d3, rfl⟩
  cases f1 : lightB n L with
  | false =>
    go_wp2
    go_ret
    exact ⟨rfl, HC1.out.drewN _⟩
  | true =>
  cases f2 : mayB n L with
  | false =>
    go_wp2
    go_ret
    exact ⟨rfl, HC1.out.drewN _⟩
  | true => exact absurd ⟨f1, f2⟩ HH.out
set_option maxHeartbeats 6400000 in
set_option maxRecDepth 100000 in
theorem rsOwn_main (b o C n : Nat) (L : Nat → Nat) (X : Nat → Nat → Nat) (hX : AllB X) (w : World) (ha : MatV w (.slice (some ⟨b, o, none⟩) n C) n L X) (f1 : lightB n L = true) (f2 : mayB n L = true) : Calls Try.prog 7 #[.slice (some ⟨b, o, none⟩) n C] w (Told w) := by
  obtain ⟨n1, _, l1, l2, hL⟩ := mayB_true f2
  obtain ⟨n20, hl40⟩ := lightB_true f1
  obtain ⟨A', C', e', hAC, hA3⟩ := id ha
  injection e' with e1 e2 e3
  obtain ⟨b', o', e4, hrows⟩ := hA3 (by omega)
  rw [← e1] at e4
  injection e4 with e5
  injection e5 with e6 e7
  subst e6
  subst e7
  have HR := Lib.hid hrows
  have HA := Lib.hid ha
  have BX := Lib.hid hX
  have F1 := Lib.hid f1
  have F2 := Lib.hid f2
  have HLE := Lib.hid hL
  have HL40 := Lib.hid hl40
  obtain ⟨l, hl⟩ : ∃ l, l = L 0 := ⟨_, rfl⟩
  have HLL := Lib.hid hl
  have hl4 : l ≤ 40 := by rw [hl]; exact hl40 0 (by omega)
  rw [← hl] at l1 l2
  obtain ⟨i0, hi, hz0, hz1, hz2⟩ := info_parts Try.info33
  obtain ⟨N, hN⟩ : ∃ N, N = n + 2 := ⟨_, rfl⟩
  have HN2 := Lib.hid hN
  have hNa : n + 2 ≤ N := by omega
  have hNb : N ≤ n + 2 := by omega
  have t5 : ((N : Int) != (n : Int) + 2) = false := by simp; omega
  clear hN
  clear e1 e2 e3 hA3 hrows ha hX hAC f1 f2 hL hl40 hl
  go_enter Try.func7, Try.ntmps7
  go_wp2_with fail
  refine (awake_any _).mono ?_
  rintro e w1 ⟨rfl, hch1⟩
  have HA1 := Lib.hid (HA.out.gr hch1)
  have HC1 := Lib.hid hch1
  clear hch1
  go_wp2_with fail
  refine (light_any _ n L X _ HA1.out).mono ?_
  rintro e w2 ⟨rfl, rfl⟩
  rw [F1.out]
  go_wp2_with fail
  refine (rmay_any _ n L X _ HA1.out).mono ?_
  rintro e w3 ⟨rfl, d3, rfl⟩
  rw [F2.out]
  obtain ⟨w2, hw2⟩ : ∃ w2, w2 = w1.drewN d3 := ⟨_, rfl⟩
  rw [← hw2]
  have HC2 := Lib.hid (show Ch (fun _ => False) w w2 by rw [hw2]; exact HC1.out.drewN _)
  clear hw2
  go_wp2
  go_loopw [6, 7] (fun v t wr => ∃ k : Nat, k ≤ n ∧ t = .int .i64 k ∧ Hid (Ch (fun _ => False) w2 wr ∧ BldL w2.heap.size 0 wr v k L X)) (fun _ t _ => n - (intOf t).toNat)
  case atStart => exact ⟨0, Nat.zero_le _, rfl, Lib.hid ⟨Ch.refl _ _, BldL.nil _ _ _ _ _⟩⟩
  case round =>
    obtain ⟨k, hk, rfl, HP⟩ := hrel
    by_cases hlt : k < n
    · obtain ⟨x, cx, hx⟩ := HR.out k hlt
      obtain ⟨hch, xs, ho, hro⟩ := HP.out
      have hall := HC2.out.trans hch
      have c1 := hall.cell cx (fun f => f)
      have hxw := hx.ch hall (fun _ _ f => f)
      obtain ⟨Ax, Cx, rfl, hcx, _⟩ := id hxw
      obtain ⟨v1, w3, hrun, hown, hc2⟩ := app_copy hxw (by have := HL40.out k hlt; omega)
      have hX : RowV w3 v1 (L k) (X k) := ownsRow_rowV hown hcx.1 (fun c _ => BX.out k c)
      obtain ⟨A1, C1, rfl, _⟩ := id hX
      have ho2 := ownsRow_ch ho hc2
      have hxb := off_new (b2 := 0) ho hc2 hown (Nat.zero_le _)
      have HAP := Lib.hid (app_mk (x := .slice A1 (L k) C1) ho2 (Nat.le_trans hch.size hc2.size) rfl (by omega))
      have HR2 := Lib.hid (show ∀ q, q < k → ∃ x, xs[q]? = some x ∧ RowV w3 x (L q) (X q) ∧ ∀ b, x.ownBlock = some b → b < w3.heap.size ∧ u6.ownBlock ≠ some b ∧ Far 0 w3 b from fun q hq => by
        obtain ⟨x, hx, hv, hoo⟩ := hro q hq
        exact ⟨x, hx, hv.ch hc2 (fun _ _ f => f), fun b hb => ⟨Nat.lt_of_lt_of_le (hoo b hb).1 hc2.size, (hoo b hb).2.1, Far.zero _ _⟩⟩)
      have HX := Lib.hid hX
      have HXB := Lib.hid hxb
      have HO2 := Lib.hid ho2
      have HCH := Lib.hid (hch.trans hc2)
      have HM2 := Lib.hid (show (k + 1) * 24 ≤ 140737488355328 by omega)
      have HRUN := Lib.hid hrun
      clear hX hxb ho2 hch hown hxw hx cx hall ho hro hc2 hrun HP
      go_wp2_with (first | (at_builtin; refine wpList_copy_of _ rfl (.const (.slice none 0 0)) (.tmp 40) rfl rfl (.slice none 0 0) (.slice Ax (L k) Cx) (.slice A1 (L k) C1) w3 rfl rfl HRUN.out ?_) | (at_builtin; refine wpList_append_lies _ rfl (.tmp 36) (.tmp 42) /-t-/22 rfl w2.heap.size /-t-/33 i0 (.slice none 0 0) 1 24 Try.underlying22 hi hz0 hz1 hz2 rfl (by decide) u6 k xs rfl HAP.out.o ⟨w3.heap.size, 0, none⟩ 1 1 [.slice A1 (L k) C1] rfl rfl HAP.out.n HAP.out.c (by decide) HAP.out.m HM2.out HAP.out.b (w3.heap.size + 1) HAP.out.s ?_; intro g cap w5 h1 h2 h3 h4))
      have HN := Lib.hid (show Ch (fun _ => False) w2 w5 ∧ BldL w2.heap.size 0 w5 (.slice (some ⟨g, 0, none⟩) (k + 1) cap) (k + 1) L X from ⟨Bld.moreCh _ _ HCH.out HO2.out (Nat.le_refl _) h2, Bld.more _ HO2.out HR2.out HX.out HXB.out h1 h2 h3⟩)
      clear h1 h2 h3 h4
      go_wp2
      go_roundw
      case rel => exact ⟨k + 1, by omega, by go_num, HN⟩
      case measure => simp [intOf]; omega
    · have HE := Lib.hid (show k = n by omega)
      obtain ⟨hch, hbld⟩ := HP.out
      rw [HE.out] at hbld
      have hW := hbld.mat (by omega)
      obtain ⟨Aw, Cw, rfl, _⟩ := id hW
      have HW := Lib.hid hW
      have HCR := Lib.hid (HC2.out.trans hch)
      clear hbld hch hW HR HL40 HP
      go_wp2_with fail
      refine (encode_new _ n 2 L X _ (HA.out.gr HCR.out) F2.out (by omega)).mono ?_
      rintro e w3 ⟨u, rfl, hB, hch3⟩
      obtain ⟨v1, w4, v2, w5, hr1, hr2, hB2, hch5⟩ := all_at BX.out (HA.out.gr (HCR.out.trans hch3)) F2.out hB (by omega)
      rw [← HLL.out, ← HN2.out] at hB2
      have hM5 := hB2.mat (by omega)
      obtain ⟨g5, o5, C5, rfl, _, hr5⟩ := hM5.some (by omega)
      obtain ⟨_, _, cc5, _⟩ := hr5 0 (by omega)
      have hpos : g5 < w5.heap.size := World.block_lt_of_cell? _ _ cc5
      have HR1 := Lib.hid hr1
      have HR2 := Lib.hid hr2
      have HM5 := Lib.hid hM5
      have HC35 := Lib.hid (hch3.trans hch5)
      have HC5 := Lib.hid ((HCR.out.trans hch3).trans hch5)
      have HFit := Lib.hid (show Fits (fun _ => l) N from fun i _ _ => ⟨l2, fun _ _ _ => rfl⟩)
      have HIX := Lib.hid (show n ≤ (idx (fun _ => l) N).length by rw [idx_all fun _ _ => l1]; omega)
      clear hB hch3 hr1 hr2 hB2 hch5 hM5 hr5 cc5
      go_wp2_with (first | (at_builtin; refine wpList_rows_of _ rfl (.const (.slice none 0 0)) (.tmp 50) rfl rfl (.slice none 0 0) (.slice (some ⟨b, o, none⟩) n C) v1 w4 rfl rfl HR1.out ?_) | (at_builtin; refine wpList_rows_of _ rfl (.tmp 51) (.tmp 52) rfl rfl v1 u (.slice (some ⟨g5, o5, none⟩) N C5) w5 rfl rfl HR2.out ?_))
      refine (decode_yes _ _ _ N n (fun _ => l) _ (shares_b n X) _ n1 (by omega) (by omega) HM5.out HFit.out HIX.out).mono ?_
      rintro e w6 ⟨D, hD, v6, rfl, hB6, hch6⟩
      obtain ⟨g, Cg, B, O, Dd, rfl, hsoft, hg, hBB⟩ := bld_soft hB6 (by omega) (by omega) (show 0 < longZ (fun _ => l) N from l1)
      have HS := Lib.hid (show Soft w6 g N l B O Dd from hsoft)
      have HBB := Lib.hid hBB
      have HC6 := Lib.hid hch6
      clear hD hB6 hch6 hsoft hBB hg HR1 HR2 HM5
      go_wp2
      clear t5
      go_loopw [12, 13] (fun t _ wr => ∃ i : Nat, i ≤ N ∧ t = .int .i64 i ∧ Hid (Soft wr g N l B O Dd ∧ Ch (fun j => w5.heap.size ≤ j) w5 wr)) (fun t _ _ => N - (intOf t).toNat)
      case atStart => exact ⟨0, Nat.zero_le _, rfl, Lib.hid ⟨HS.out, HC6.out.mono fun _ _ f => f.elim⟩⟩
      case round =>
        obtain ⟨i, hi2, rfl, HQ⟩ := hrel
        by_cases hlt2 : i < N
        · go_wp2
          go_loopw [13] (fun t wi => ∃ c : Nat, c ≤ l ∧ t = .int .i64 c ∧ Hid (Soft wi g N l B O Dd ∧ Ch (fun j => w5.heap.size ≤ j) w5 wi)) (fun t _ => l - (intOf t).toNat)
          case atStart => exact ⟨0, Nat.zero_le _, rfl, HQ⟩
          case round =>
            obtain ⟨c, hc, rfl, HT⟩ := hrel
            have c1 := HT.out.1.top i hlt2
            by_cases hlt3 : c < l
            · obtain ⟨x, cx, hx8, fx⟩ := HT.out.1.at hlt2 hlt3
              have hib : (i : Int) < (N : Int) := by omega
              go_wp2
              go_still_tail 14, (by kernel_rfl)
              change wpList _ _ _ _ _ wr.drew
              go_wp2
              have HN := Lib.hid (show Soft (wr.drew.setCell ⟨B i, O i + c, none⟩ (.int .u8 (((x : Int) + 1) % 256))) g N l B O Dd ∧ Ch (fun j => w5.heap.size ≤ j) w5 (wr.drew.setCell ⟨B i, O i + c, none⟩ (.int .u8 (((x : Int) + 1) % 256))) from ⟨HT.out.1.next hlt2 _ _, HT.out.2.drew.setCell (p := ⟨B i, O i + c, none⟩) (Or.inl (HBB.out i hlt2)) _⟩)
              clear cx fx c1
              go_roundw
              case rel => first | exact ⟨c + 1, by omega, by go_num, HN⟩ | ((repeat apply Exists.intro); exact ⟨⟨c + 1, by omega, (show Value.int .i64 ((c : Int) + 1) = .int .i64 ((c + 1 : Nat) : Int) by go_num), HN⟩, rfl⟩)
              case measure => simp [intOf]; omega
            · go_wp2
              go_roundw
              case rel => exact ⟨i + 1, by omega, by go_num, HT⟩
              case measure => simp [intOf]; omega
        · have hold : ∀ j, j < w5.heap.size → ¬ w5.heap.size ≤ j := fun j hj => by omega
          have HA9 := Lib.hid ((HA.out.gr HC5.out).ch HQ.out.2 hold)
          have HW9 := Lib.hid ((HW.out.gr HC35.out).ch HQ.out.2 hold)
          clear hold
          go_wp2_with fail
          refine (same_any _ _ n L X _ HA9.out HW9.out).mono ?_
          rintro e w9 ⟨rfl, d9, rfl⟩
          go_wp2
          go_ret
          refine ⟨rfl, Ch.drewN ?_ _⟩
          have hs5 := HC5.out.size
          exact ((HC5.out.mono fun _ _ f => f.elim).trans HQ.out.2).mono fun j hj (hS : w5.heap.size ≤ j) => by omega
theorem rsOwn_of (va : Value) (w : World) {n : Nat} {L : Nat → Nat} {X : Nat → Nat → Nat} (ha : MatV w va n L X) : Calls Try.prog 7 #[va] w (Told w) := by
  by_cases h : lightB n L = true ∧ mayB n L = true
  · obtain ⟨b, o, C, rfl, _, _⟩ := ha.some (mayB_true h.2).1
    exact rsOwn_main b o C n L _ (trunc_b X) w ha.trunc h.1 h.2
  · exact rsOwn_short va n L X w ha h
#print axioms rsOwn_of
end Go.Proofs.Ytlgdajmidcdiaaa
