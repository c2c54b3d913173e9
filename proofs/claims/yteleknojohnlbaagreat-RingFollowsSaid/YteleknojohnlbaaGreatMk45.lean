/-
  The document's Follow (quartermasterref11), walked.
-/
import Derived.Test.YteleknojohnlbaaGreatMk44
import Derived.Deep.CutBlock
import Derived.Deep.RegionHeld3
namespace Go.Proofs.YteleknojohnlbaaGreat
open Go.RowKit
set_option linter.unusedVariables false
set_option maxRecDepth 100000
set_option linter.unusedSimpArgs false
theorem fol_end {m : Mi} {start : Nat} {chain : Int} {w4 wr : World} {k : Nat} {L : List Pv} {A15 A16 : Option Addr} {C15 C16 : Nat} {sm : Int} (h : FolW m start chain w4 wr k L (.slice A15 k C15) (.slice A16 k C16) sm) (hk : k ≤ 512) (hst : start ≤ 4294967295) :
    Calls Tryz.prog 59 #[.slice A15 k C15, .slice A16 k C16, .int .i64 (start : Int), .int .i64 chain] wr (TailPost (tailR (sumM m) (pvP L) start chain) (epR (pvP L)) wr) := by
  obtain ⟨qf, q1, q2⟩ := h.sums
  have hl := h.len
  subst hl
  refine r11grp_any A15 C15 L A16 C16 qf wr start chain (sumM m) (h.own.read (by omega)) (own_intV q1.own (by omega)) q2 (fun x hx => ?_) (fun i x hx => by have := (h.ok i x hx).seq; rw [this]; omega) (by omega) ⟨by omega, by omega⟩
  obtain ⟨i, hi, he⟩ := List.getElem_of_mem hx
  have c := (h.ok i x (by rw [List.getElem?_eq_getElem hi, he])).may
  exact ⟨c.ofn, c.len⟩
theorem fol_fin {m : Mi} {start : Nat} {chain : Int} {w wr w' : World} {L : List Pv} {T : Nat} {V : Value} (hall : allI m start chain = (pvP L, false)) (hcw : Ch (fun _ => False) w wr) (ht : TailV wr w' (tailR (sumM m) (pvP L) start chain) (epR (pvP L)) V) (hc : Ch (fun _ => False) wr w') (hT : wr.heap[T]? = some (.cells (tlC tl0 0 (.slice none 0 0)) 40 (0, 0))) (hTl : w.heap.size ≤ T) :
    ∃ A C n w9, V = .agg (tlC (tailR (sumM m) (pvP L) start chain) (epR (pvP L)) (.slice A n C)) ∧ StTl w' w9 T (tailR (sumM m) (pvP L) start chain) (epR (pvP L)) (.slice A n C) ∧ FolPost m start chain w (.returned (.tuple #[.agg (tlC (tailR (sumM m) (pvP L) start chain) (epR (pvP L)) (.slice A n C)), .int .i64 0])) w9 := by
  obtain ⟨A, C, M, hV, hM, hO⟩ := ht
  have hT2 := (hc.block T (blk_lt hT) (fun f => f)).trans hT
  obtain ⟨w9, h9⟩ := stTl (tailR (sumM m) (pvP L) start chain) (epR (pvP L)) hT2 ⟨A, M.length, C, rfl⟩
  refine ⟨A, C, M.length, w9, hV, h9, _, by rw [hall]; rfl, ?_, (hcw.trans hc).new (h9.ch.mono fun i _ hi => by rw [hi]; exact hTl)⟩
  rw [hall]
  exact ⟨A, C, M, rfl, hM, (hO.low hcw.size).set h9.ch hT2 (by decide) (by decide)⟩
theorem fol_err {m : Mi} {start : Nat} {chain : Int} {w wr : World} {T : Nat} (hall : (allI m start chain).2 = true) (hcw : Ch (fun _ => False) w wr) (hT : wr.heap[T]? = some (.cells (tlC tl0 0 (.slice none 0 0)) 40 (0, 0))) (hTl : w.heap.size ≤ T) :
    ∃ w9, StTl wr w9 T tl0 0 (.slice none 0 0) ∧ FolPost m start chain w (.returned (.tuple #[.agg (tlC tl0 0 (.slice none 0 0)), .int .i64 22])) w9 := by
  obtain ⟨w9, h9⟩ := stTl tl0 0 hT slV_nil
  refine ⟨w9, h9, _, by rw [hall]; rfl, ?_, hcw.new (h9.ch.mono fun i _ hi => by rw [hi]; exact hTl)⟩
  rw [hall]
  exact ⟨none, 0, [], rfl, rfl, RwO.start _ _ _ _⟩
theorem meas_s {s e : Nat} (h : s < e) : e - (intOf (.int .i64 ((s : Int) + 1))).toNat < e - (intOf (.int .i64 (s : Int))).toNat := by
  show e - ((s : Int) + 1).toNat < e - ((s : Int)).toNat
  omega
theorem nn_of {a b : Bool} (h : ¬ (a = false ∧ b = false)) : a = true ∨ b = true := by cases a <;> cases b <;> simp_all
theorem and_fst {a b : Bool} (h : (a && b) = true) : a = true := by cases a <;> simp_all
theorem at_some {o : Option Pn} {s : Int} : (atS o s).isSome = (o.isSome && ((optP o).seq == s)) := by
  cases o with
  | none => rfl
  | some p =>
    unfold atS
    simp only
    split
    · rename_i e; simp [optP, e]
    · rename_i e; simp [optP, e]
set_option maxHeartbeats 51200000 in
theorem r11follow_yes (m : Mi) (start : Nat) (chain : Int) (w : World) (h : MiIs w m) (hst : start ≤ 4294967295) (hch : 0 ≤ chain ∧ chain ≤ 4294967295) :
    Calls Tryz.prog 22 #[.slice (m.A 0) m.g.W (m.C 0), .slice (m.A 1) m.g.W (m.C 1), .int .i64 m.vol, .agg (geC m.g.ge), .int .i64 (start : Int), .int .i64 chain] w (FolPost m start chain w) := by
  obtain ⟨w1, G, hG⟩ := geR w m.g.ge
  obtain ⟨w2, T, hT⟩ := boxR w1 (tlC tl0 0 (.slice none 0 0)) 40
  have hW1 : 0 < m.g.W := by have := h.ok.w1; omega
  have hW2 : m.g.W ≤ 512 := by have := h.ok.w2; omega
  have HSL0 := Lib.hid (fun (w' : World) (k : Ch (fun _ => False) w w') (q : Nat) (hq : q < m.g.W) => (h.gr k).slot hq (Or.inl rfl))
  have HSL1 := Lib.hid (fun (w' : World) (k : Ch (fun _ => False) w w') (q : Nat) (hq : q < m.g.W) => (h.gr k).slot hq (Or.inr rfl))
  obtain ⟨b0, o0, _, _, hA0, _⟩ := h.slot hW1 (Or.inl rfl)
  obtain ⟨b1, o1, _, _, hA1, _⟩ := h.slot hW1 (Or.inr rfl)
  have HA0 := Lib.hid hA0
  have HA1 := Lib.hid hA1
  have hmg : mayG m.g.ge = true := ok_may h.ok
  have hvo : wordS m.vol = true := inB_true.2 h.vol
  have hsw : wordS (start : Int) = true := inB_true.2 ⟨by omega, by omega⟩
  have hcw : wordS chain = true := inB_true.2 hch
  have hVN : N64 m.vol := by have := h.vol; unfold N64; omega
  have HG := Lib.hid hG
  have HT := Lib.hid hT
  have HVN := Lib.hid hVN
  have HMG := Lib.hid hmg
  have HST := Lib.hid hst
  have HCHN := Lib.hid hch
  obtain ⟨W, hW⟩ : ∃ W, W = m.g.W := ⟨_, rfl⟩
  have HW := Lib.hid hW
  have HWB := Lib.hid (show 0 < W ∧ W ≤ 512 by rw [hW]; exact ⟨hW1, hW2⟩)
  obtain ⟨C0, hC0⟩ : ∃ C, C = m.C 0 := ⟨_, rfl⟩
  obtain ⟨C1, hC1⟩ : ∃ C, C = m.C 1 := ⟨_, rfl⟩
  obtain ⟨vol, hvol⟩ : ∃ v, v = m.vol := ⟨_, rfl⟩
  have HVO := Lib.hid hvol
  rw [hA0, hA1, ← hW, ← hC0, ← hC1, ← hvol]
  rw [← hvol] at hvo
  obtain ⟨x0, x1, x2, x3⟩ := hG.x.gr hT.ch
  obtain ⟨ge, hge⟩ : ∃ ge, ge = m.g.ge := ⟨_, rfl⟩
  have HGE := Lib.hid hge
  rw [← hge] at HG x0 x1 x2 x3 HMG ⊢
  have HGW := Lib.hid (show ge.wal = (W : Int) by rw [hge, hW]; rfl)
  have t0 : ((W : Int) != ge.wal) = false := by rw [HGW.out]; simp
  clear hG hT hA0 hA1 hmg hW1 hW2 h hst hch hVN hW hC0 hC1 hvol hge
  go_enter Tryz.func22, Tryz.ntmps22
  go_wp2_with (first
    | ((with_reducible refine wpList_isOp (.box 23 (.tmp 3)) rfl ?_); refine wpList_boxing _ w1 rfl 23 (.tmp 3) rfl (geC ge) G rfl (by exact HG.out.sz) (by exact HG.out.al) ?_)
    | ((with_reducible refine wpList_isOp (.alloc 40) rfl ?_); refine wpList_making _ w2 rfl 40 rfl (tlC tl0 0 (.slice none 0 0)) T (zero_tl _) (by exact HT.out.sz) (by exact HT.out.al) ?_)
    | (go_at_call 38; refine (rgmay_any ge _).mono ?_; rintro e w4 ⟨rfl, hc4⟩; rw [HMG.out]; have y0 := hc4.cell x0 (fun f => f))
    | (go_at_call 44; refine (w11_any _ _).mono ?_; rintro e w' ⟨rfl, rfl⟩)
    | fail)
  have HC4 := Lib.hid ((HG.out.ch.trans HT.out.ch).trans hc4)
  have HX4 := Lib.hid ((HG.out.x.gr HT.out.ch).gr hc4)
  have HT4 := Lib.hid ((hc4.block T (blk_lt HT.out.cx) (fun f => f)).trans HT.out.cx)
  have HTL := Lib.hid (show w.heap.size ≤ T by rw [← HT.out.sz]; exact HG.out.ch.size)
  have HST0 := Lib.hid (folW_start m start chain w4 HCHN.out)
  clear x0 x1 x2 x3 y0 hc4 t0 hvo hsw hcw
  go_loopw [15, 16, 17, 18, 19, 20, 21, 22, 23, 24, 25, 26, 27, 28, 29, 66, 67, 68, 69, 70, 71, 72, 73, 74, 75, 76, 77, 78, 79, 80, 81, 82, 83, 84, 85, 86, 87, 88, 89, 90, 91, 92, 93, 94, 95, 96, 97, 98, 99, 100, 101, 102, 103, 104, 105, 106, 107, 108, 109, 110, 111, 112, 113, 114, 115, 116, 117, 118, 119, 120, 121, 122, 123, 124, 125, 126, 127, 128, 129, 130, 131, 132, 133, 134, 135, 136, 137, 138, 139, 140, 141, 142, 143, 144, 145, 146, 147, 148, 149, 150, 151, 152, 153, 154, 155, 156, 157, 158, 159, 160, 161, 162, 163, 164, 165, 166, 167, 168, 169, 170, 171, 172, 173, 174, 175, 176, 177, 178, 179, 180, 181, 182, 183, 184, 185, 186, 187, 188, 189, 190, 191, 192, 193, 194, 195] (fun v15 v16 s17 s18 _ _ _ _ _ _ _ _ _ _ _ _ _ _ _ _ _ _ _ _ _ _ _ _ _ _ _ _ _ _ _ _ _ _ _ _ _ _ _ _ _ _ _ _ _ _ _ _ _ _ _ _ _ _ _ _ _ _ _ _ _ _ _ _ _ _ _ _ _ _ _ _ _ _ _ _ _ _ _ _ _ _ _ _ _ _ _ _ _ _ _ _ _ _ _ _ _ _ _ _ _ _ _ _ _ _ _ _ _ _ _ _ _ _ _ _ _ _ _ _ _ _ _ _ _ _ _ _ _ _ _ _ _ _ _ _ _ _ _ _ _ wr => ∃ (k : Nat) (L : List Pv) (sm : Int), s17 = .int .i64 sm ∧ s18 = .int .i64 ((start + k : Nat) : Int) ∧ Hid (k ≤ W) ∧ Hid (FolW m start chain w4 wr k L v15 v16 sm)) (fun _ _ _ s18 _ _ _ _ _ _ _ _ _ _ _ _ _ _ _ _ _ _ _ _ _ _ _ _ _ _ _ _ _ _ _ _ _ _ _ _ _ _ _ _ _ _ _ _ _ _ _ _ _ _ _ _ _ _ _ _ _ _ _ _ _ _ _ _ _ _ _ _ _ _ _ _ _ _ _ _ _ _ _ _ _ _ _ _ _ _ _ _ _ _ _ _ _ _ _ _ _ _ _ _ _ _ _ _ _ _ _ _ _ _ _ _ _ _ _ _ _ _ _ _ _ _ _ _ _ _ _ _ _ _ _ _ _ _ _ _ _ _ _ _ _ _ => start + W - (intOf s18).toNat)
  case atStart => exact ⟨0, [], chain, rfl, rfl, Lib.hid (Nat.zero_le _), HST0⟩
  case round =>
    obtain ⟨k, L, sm, rfl, rfl, HK, HF⟩ := hrel
    clear HST0
    obtain ⟨A15, C15, rfl⟩ := HF.out.own.len
    obtain ⟨qf, hqf, _⟩ := HF.out.sums
    obtain ⟨A16, C16, rfl, _⟩ := (own_intV hqf.own (by have := HK.out; have := HWB.out; omega)).len
    have hlen := HF.out.len
    rw [hlen] at HF ⊢
    clear hqf
    have HLEN := Lib.hid hlen
    obtain ⟨s, hs⟩ : ∃ s, s = start + k := ⟨_, rfl⟩
    have HS := Lib.hid hs
    rw [← hs]
    have i0 : (0 : Int) ≤ (s : Int) := Int.natCast_nonneg _
    have i1 : (s : Int) ≤ 4294967295 + 512 := by have := HST.out; have := HK.out; have := HWB.out; omega
    have i2 : (0 : Int) ≤ (start : Int) := Int.natCast_nonneg _
    have i3 : (start : Int) ≤ 4294967295 := by have := HST.out; omega
    have i4 : (0 : Int) < (W : Int) := by have := HWB.out; omega
    have i5 : (W : Int) ≤ 512 := by have := HWB.out; omega
    obtain ⟨x0, _, _, _⟩ := HX4.out.gr HF.out.ch
    rw [HGW.out] at x0
    have HT5 := Lib.hid ((HF.out.ch.block T (blk_lt HT4.out) (fun f => f)).trans HT4.out)
    have HCW := Lib.hid (HC4.out.trans HF.out.ch)
    clear hlen hs
    by_cases hlt : k < W
    · have t1 : decide ((s : Int) < (start : Int) + (W : Int)) = true := by have := HS.out; simp; omega
      obtain ⟨q, hq⟩ : ∃ q, q = s % W := ⟨_, rfl⟩
      have hqW : q < W := by rw [hq]; exact Nat.mod_lt _ (by have := HWB.out; omega)
      have e1 : (s : Int) % (W : Int) = (q : Int) := by rw [hq]; omega
      have wz : ¬ (W : Int) = 0 := by omega
      have HQ := Lib.hid hq
      have HQW := Lib.hid hqW
      have HLT := Lib.hid hlt
      clear hq hlt
      obtain ⟨b0', o0', A0, N0, hA0, hSX0⟩ := HSL0.out wr HCW.out q (by rw [← HW.out]; exact HQW.out)
      obtain ⟨b1', o1', A1, N1, hA1, hSX1⟩ := HSL1.out wr HCW.out q (by rw [← HW.out]; exact HQW.out)
      rw [HA0.out] at hA0
      rw [HA1.out] at hA1
      injection hA0 with hA0
      injection hA0 with hb0 ho0
      subst hb0 ho0
      injection hA1 with hA1
      injection hA1 with hb1 ho1
      subst hb1 ho1
      obtain ⟨n0, hn0⟩ : ∃ n, n = m.N 0 q := ⟨_, rfl⟩
      obtain ⟨n1, hn1⟩ : ∃ n, n = m.N 1 q := ⟨_, rfl⟩
      rw [← hn0] at hSX0
      rw [← hn1] at hSX1
      obtain ⟨y0, y1, y2, y3⟩ := HX4.out.gr HF.out.ch
      have HSD0 : Hid (HoldFw b0 (o0 + q) G A0 n0 N0 ge wr) := Lib.hid ⟨hSX0.cell, y0, y1, y2, y3⟩
      have HSD1 : Hid (HoldFw b1 (o1 + q) G A1 n1 N1 ge wr) := Lib.hid ⟨hSX1.cell, y0, y1, y2, y3⟩
      have HTO0 := Lib.hid (show ∀ w', Ch (fun _ => False) wr w' → Calls Tryz.prog 16 #[.slice A0 n0 N0, .int .i64 vol, .agg (geC ge), .int .i64 0, .int .i64 (q : Int)] w' (TellPostR (m.N 0 (s % m.g.W)) (m.Z 0 (s % m.g.W)) m.vol m.g.ge ((0 : Nat) : Int) ((s % m.g.W : Nat) : Int) w') from fun w' k' => by
        rw [← HW.out, ← HQ.out, ← hn0, ← HVO.out, ← HGE.out]
        exact r11told_any A0 n0 N0 (m.Z 0 q) vol ge 0 q w' (by rw [HVO.out]; exact HVN.out) (hSX0.row.gr k'))
      have HTO1 := Lib.hid (show ∀ w', Ch (fun _ => False) wr w' → Calls Tryz.prog 16 #[.slice A1 n1 N1, .int .i64 vol, .agg (geC ge), .int .i64 1, .int .i64 (q : Int)] w' (TellPostR (m.N 1 (s % m.g.W)) (m.Z 1 (s % m.g.W)) m.vol m.g.ge ((1 : Nat) : Int) ((s % m.g.W : Nat) : Int) w') from fun w' k' => by
        rw [← HW.out, ← HQ.out, ← hn1, ← HVO.out, ← HGE.out]
        exact r11told_any A1 n1 N1 (m.Z 1 q) vol ge 1 q w' (by rw [HVO.out]; exact HVN.out) (hSX1.row.gr k'))
      have HCL0 := Lib.hid (show ∀ w' adr, Ch (fun _ => False) wr w' → adr = 4 + (q : Int) → Calls Tryz.prog 56 #[.slice A0 n0 N0, .int .i64 vol, .int .i64 adr] w' (Ans (.bool (cleanM m q 0)) w') from fun w' adr k' ha => by
        have := r11clean_any A0 n0 N0 (m.Z 0 q) vol adr w' (hSX0.row.gr k')
        rw [hn0, HVO.out, show adr = addrR m.g.ge ((0 : Nat) : Int) (q : Int) by rw [ha]; unfold addrR; simp] at this
        rw [hn0, HVO.out, show adr = addrR m.g.ge ((0 : Nat) : Int) (q : Int) by rw [ha]; unfold addrR; simp]
        exact this)
      have HCL1 := Lib.hid (show ∀ w' adr, Ch (fun _ => False) wr w' → adr = 4 + (W : Int) + (q : Int) → Calls Tryz.prog 56 #[.slice A1 n1 N1, .int .i64 vol, .int .i64 adr] w' (Ans (.bool (cleanM m q 1)) w') from fun w' adr k' ha => by
        have e : adr = addrR m.g.ge ((1 : Nat) : Int) (q : Int) := by
          rw [ha]; unfold addrR
          rw [show m.g.ge.wal = (W : Int) by rw [← HGE.out]; exact HGW.out]
          simp
        have := r11clean_any A1 n1 N1 (m.Z 1 q) vol adr w' (hSX1.row.gr k')
        rw [hn1, HVO.out, e] at this
        rw [hn1, HVO.out, e]
        exact this)
      have HCM := Lib.hid (show cleanM m q 0 = false → cleanM m q 1 = false → clM m (s % m.g.W) = false from fun h0 h1 => by rw [← HW.out, ← HQ.out]; unfold clM; rw [h0, h1]; rfl)
      have HCN := Lib.hid (show cleanM m q 0 = true ∨ cleanM m q 1 = true → clM m (s % m.g.W) = true from fun h0 => by
        rw [← HW.out, ← HQ.out]; unfold clM
        rcases h0 with h0 | h0
        · rw [h0]; rfl
        · rw [h0, Bool.or_true])
      have q0 : (0 : Int) ≤ (q : Int) := Int.natCast_nonneg _
      have q1 : (q : Int) < (W : Int) := by have := HQW.out; omega
      clear hSX0 hSX1 hn0 hn1 y0 y1 y2 y3 hqW
      go_upto_region 11 with fail
      rw [e1]
      clear e1
      go_cut [20, 21] (fun t bv wx => ∃ G5 o5 V5, t = .pointer (some ⟨G5, 0, none⟩) ∧ bv = .bool o5.isSome ∧ Hid (TldF m s 0 w4 wr wx G5 o5 V5))
      case first =>
        have HSW := Lib.hid (HSD0.out.gr (Ch.refl _ wr).drew)
        obtain ⟨wd, hwd⟩ : ∃ wd, wd = wr.drew := ⟨_, rfl⟩
        have HWD := Lib.hid (show Ch (fun _ => False) wr wd by rw [hwd]; exact (Ch.refl _ wr).drew)
        refine wp_region_held (S := (HoldFw b0 (o0 + q) G A0 n0 N0 ge)) (by kernel_rfl) ?_
        change wpAnyH _ _ _ _ _ _ _ _ (World.drew _)
        rw [← hwd] at HSW ⊢
        clear hwd
        refine wpAnyH_take (i := 0) (oi := ⟨some 79, .move (.tmp 0), _, _, _, none⟩) (v := .slice (some ⟨b0, o0, none⟩) W C0) rfl (by kernel_rfl) (by kernel_rfl) (by kernel_rfl) (fun _ _ _ h => h) (Or.inl ⟨by rfl, fun w' hS => ?_⟩) HSW.out ?_
        · clear hS; go_simp
        simp only [Act.put, List.setIfInBounds_toArray, List.set_cons_zero, List.set_cons_succ]
        refine wpAnyH_take (i := 1) (oi := ⟨some 80, .move (.tmp 19), _, _, _, none⟩) (v := .int .i64 (q : Int)) rfl (by kernel_rfl) (by kernel_rfl) (by kernel_rfl) (fun _ _ _ h => h) (Or.inl ⟨by rfl, fun w' hS => ?_⟩) HSW.out ?_
        · clear hS; go_simp
        simp only [Act.put, List.setIfInBounds_toArray, List.set_cons_zero, List.set_cons_succ]
        refine wpAnyH_take (i := 2) (oi := ⟨some 81, .indexAddr 37 (.tmp 79) (.tmp 80), _, _, _, none⟩) (v := .pointer (some ⟨b0, o0 + q, none⟩)) rfl (by kernel_rfl) (by kernel_rfl) (by kernel_rfl) (fun _ _ _ h => h) (Or.inl ⟨by rfl, fun w' hS => ?_⟩) HSW.out ?_
        · clear hS; go_simp
        simp only [Act.put, List.setIfInBounds_toArray, List.set_cons_zero, List.set_cons_succ]
        refine wpAnyH_take (i := 3) (oi := ⟨some 82, .load 24 (.tmp 81), _, _, _, none⟩) (v := .slice A0 n0 N0) rfl (by kernel_rfl) (by kernel_rfl) (by kernel_rfl) (fun _ _ _ h => h) (Or.inl ⟨by rfl, fun w' hS => ?_⟩) HSW.out ?_
        · have s := hS.c; clear hS; go_simp
        simp only [Act.put, List.setIfInBounds_toArray, List.set_cons_zero, List.set_cons_succ]
        refine wpAnyH_take (i := 4) (oi := ⟨some 83, .move (.tmp 2), _, _, _, none⟩) (v := .int .i64 vol) rfl (by kernel_rfl) (by kernel_rfl) (by kernel_rfl) (fun _ _ _ h => h) (Or.inl ⟨by rfl, fun w' hS => ?_⟩) HSW.out ?_
        · clear hS; go_simp
        simp only [Act.put, List.setIfInBounds_toArray, List.set_cons_zero, List.set_cons_succ]
        refine wpAnyH_take (i := 5) (oi := ⟨some 84, .load 23 (.tmp 9), _, _, _, none⟩) (v := .agg (geC ge)) rfl (by kernel_rfl) (by kernel_rfl) (by kernel_rfl) (fun _ _ _ h => h) (Or.inl ⟨by rfl, fun w' hS => ?_⟩) HSW.out ?_
        · have s0 := hS.x0; have s1 := hS.x1; have s2 := hS.x2; have s3 := hS.x3; clear hS; go_simp; rfl
        simp only [Act.put, List.setIfInBounds_toArray, List.set_cons_zero, List.set_cons_succ]
        refine wpAnyH_take (i := 6) (oi := ⟨some 85, .move (.tmp 19), _, _, _, none⟩) (v := .int .i64 (q : Int)) rfl (by kernel_rfl) (by kernel_rfl) (by kernel_rfl) (fun _ _ _ h => h) (Or.inl ⟨by rfl, fun w' hS => ?_⟩) HSW.out ?_
        · clear hS; go_simp
        simp only [Act.put, List.setIfInBounds_toArray, List.set_cons_zero, List.set_cons_succ]
        refine wpAnyH_ready (rs := [7, 11]) (by kernel_rfl) (by simp) ?_
        refine AllReadyH.cons rfl (fun K hK => ?_) (AllReadyH.cons rfl (fun K hK => ?_) AllReadyH.nil)
        · go_simp
          refine (HTO0.out wd ((Ch.refl _ wr).trans HWD.out)).mono ?_
          rintro e w5 ⟨o5, V5, ht5, rfl, hn5, hc5⟩
          obtain ⟨wz, wx, G5, hV5⟩ := varPc (optP o5) (V := V5) (by obtain ⟨A, C, e⟩ := hn5.len; exact ⟨_, _, _, e⟩) w5
          have HS5 := Lib.hid (HSW.out.gr hc5)
          have HSZ := Lib.hid (show (HoldFw b0 (o0 + q) G A0 n0 N0 ge) wz by rw [← hV5.al]; exact (HSW.out.gr hc5).gr ((Ch.refl _ w5).alloc _ _))
          have HSX := Lib.hid ((HSW.out.gr hc5).gr hV5.ch)
          have HFIN : Hid (TldF m s 0 w4 wr wx G5 o5 V5) := Lib.hid ⟨ht5, hV5.cx, (hn5.low (HF.out.ch.trans HWD.out).size).gr hV5.ch, (HWD.out.trans hc5).trans hV5.ch, by rw [← hV5.sz]; exact (HWD.out.trans hc5).size⟩
          have HV5 := Lib.hid hV5
          clear ht5 hn5 hc5 hV5
          dsimp only
          refine hK.out _ _ HS5.out (fun _ => ?_)
          clear hK K
          try simp only [Act.put, List.setIfInBounds_toArray, List.set_cons_zero, List.set_cons_succ]
          refine wpAnyH_take (i := 8) (oi := ⟨some 78, .move (.tmp 86), _, _, _, none⟩) (v := .tuple #[.agg (pcC (optP o5) V5), .bool o5.isSome]) rfl (by kernel_rfl) (by kernel_rfl) (by kernel_rfl) (fun _ _ _ h => h) (Or.inl ⟨by rfl, fun w' hS => ?_⟩) HS5.out ?_
          · clear hS; go_simp
          try simp only [Act.put, List.setIfInBounds_toArray, List.set_cons_zero, List.set_cons_succ]
          refine wpAnyH_take (i := 9) (oi := ⟨some 87, .extract (.tmp 78) 0, _, _, _, none⟩) (v := .agg (pcC (optP o5) V5)) rfl (by kernel_rfl) (by kernel_rfl) (by kernel_rfl) (fun _ _ _ h => h) (Or.inl ⟨by rfl, fun w' hS => ?_⟩) HS5.out ?_
          · clear hS; go_simp
          try simp only [Act.put, List.setIfInBounds_toArray, List.set_cons_zero, List.set_cons_succ]
          refine wpAnyH_take (i := 10) (oi := ⟨some 88, .extract (.tmp 78) 1, _, _, _, none⟩) (v := .bool o5.isSome) rfl (by kernel_rfl) (by kernel_rfl) (by kernel_rfl) (fun _ _ _ h => h) (Or.inl ⟨by rfl, fun w' hS => ?_⟩) HS5.out ?_
          · clear hS; go_simp
          try simp only [Act.put, List.setIfInBounds_toArray, List.set_cons_zero, List.set_cons_succ]
          refine wpAnyH_ready (rs := [11]) (by kernel_rfl) (by simp) ?_
          refine AllReadyH.cons rfl (fun K hK => ?_) AllReadyH.nil
          refine step_making (o := ⟨some 20, .alloc 26, _, _, _, none⟩) wz rfl 26 rfl (pcC pn0 (.slice none 0 0)) G5 (zero_pc _) HV5.out.sz HV5.out.al ?_
          refine hK.out _ _ HSZ.out (fun _ => ?_)
          clear hK K
          try simp only [Act.put, List.setIfInBounds_toArray, List.set_cons_zero, List.set_cons_succ]
          refine wpAnyH_ready (rs := [12]) (by kernel_rfl) (by simp) ?_
          refine AllReadyH.cons rfl (fun K hK => ?_) AllReadyH.nil
          refine step_storing (o := ⟨none, .store 26 (.tmp 20) (.tmp 87), _, _, _, none⟩) wx rfl 26 (.tmp 20) (.tmp 87) rfl (.agg (pcC (optP o5) V5)) ⟨G5, 0, none⟩ rfl rfl HV5.out.st ?_
          refine hK.out _ _ HSX.out (fun _ => ?_)
          clear hK K
          try simp only [Act.put, List.setIfInBounds_toArray, List.set_cons_zero, List.set_cons_succ]
          refine wpAnyH_take (i := 13) (oi := ⟨some 21, .assign (.tmp 88), _, _, _, none⟩) (v := .bool o5.isSome) rfl (by kernel_rfl) (by kernel_rfl) (by kernel_rfl) (fun _ _ _ h => h) (Or.inl ⟨by rfl, fun w' hS => ?_⟩) HSX.out ?_
          · clear hS; go_simp
          try simp only [Act.put, List.setIfInBounds_toArray, List.set_cons_zero, List.set_cons_succ]
          refine wpAnyH_done (by kernel_rfl) ?_ _
          go_wp2_with fail
          go_meet
          exact ⟨G5, o5, V5, rfl, rfl, HFIN⟩
        · obtain ⟨wz, G5, hZ⟩ := zePc wd
          have HZZ := Lib.hid hZ
          have HSZ := Lib.hid (HSW.out.gr hZ.ch)
          clear hZ
          refine step_making (o := ⟨some 20, .alloc 26, _, _, _, none⟩) wz rfl 26 rfl (pcC pn0 (.slice none 0 0)) G5 (zero_pc _) HZZ.out.sz HZZ.out.al ?_
          refine hK.out _ _ HSZ.out (fun _ => ?_)
          clear hK K
          try simp only [Act.put, List.setIfInBounds_toArray, List.set_cons_zero, List.set_cons_succ]
          refine wpAnyH_ready (rs := [7]) (by kernel_rfl) (by simp) ?_
          refine AllReadyH.cons rfl (fun K hK => ?_) AllReadyH.nil
          go_simp
          refine (HTO0.out wz (((Ch.refl _ wr).trans HWD.out).trans HZZ.out.ch)).mono ?_
          rintro e w5 ⟨o5, V5, ht5, rfl, hn5, hc5⟩
          have hx := (hc5.block G5 (blk_lt HZZ.out.cx) (fun f => f)).trans HZZ.out.cx
          obtain ⟨wx, hV5⟩ := stPc (optP o5) hx (V := V5) (by obtain ⟨A, C, e⟩ := hn5.len; exact ⟨_, _, _, e⟩)
          have hcx : Ch (fun _ => False) wd wx := (HZZ.out.ch.trans hc5).new (hV5.ch.mono fun i _ hi => by rw [hi]; exact Nat.le_of_eq HZZ.out.sz)
          have HS5 := Lib.hid (HSZ.out.gr hc5)
          have HSX := Lib.hid (HSW.out.gr hcx)
          have HFIN : Hid (TldF m s 0 w4 wr wx G5 o5 V5) := Lib.hid ⟨ht5, hV5.cx, (hn5.set hV5.ch hx (by decide)).low ((HF.out.ch.trans HWD.out).trans HZZ.out.ch).size, HWD.out.trans hcx, by rw [← HZZ.out.sz]; exact HWD.out.size⟩
          have HV5 := Lib.hid hV5
          clear ht5 hn5 hc5 hV5 hx hcx
          dsimp only
          refine hK.out _ _ HS5.out (fun _ => ?_)
          clear hK K
          try simp only [Act.put, List.setIfInBounds_toArray, List.set_cons_zero, List.set_cons_succ]
          refine wpAnyH_take (i := 8) (oi := ⟨some 78, .move (.tmp 86), _, _, _, none⟩) (v := .tuple #[.agg (pcC (optP o5) V5), .bool o5.isSome]) rfl (by kernel_rfl) (by kernel_rfl) (by kernel_rfl) (fun _ _ _ h => h) (Or.inl ⟨by rfl, fun w' hS => ?_⟩) HS5.out ?_
          · clear hS; go_simp
          try simp only [Act.put, List.setIfInBounds_toArray, List.set_cons_zero, List.set_cons_succ]
          refine wpAnyH_take (i := 9) (oi := ⟨some 87, .extract (.tmp 78) 0, _, _, _, none⟩) (v := .agg (pcC (optP o5) V5)) rfl (by kernel_rfl) (by kernel_rfl) (by kernel_rfl) (fun _ _ _ h => h) (Or.inl ⟨by rfl, fun w' hS => ?_⟩) HS5.out ?_
          · clear hS; go_simp
          try simp only [Act.put, List.setIfInBounds_toArray, List.set_cons_zero, List.set_cons_succ]
          refine wpAnyH_take (i := 10) (oi := ⟨some 88, .extract (.tmp 78) 1, _, _, _, none⟩) (v := .bool o5.isSome) rfl (by kernel_rfl) (by kernel_rfl) (by kernel_rfl) (fun _ _ _ h => h) (Or.inl ⟨by rfl, fun w' hS => ?_⟩) HS5.out ?_
          · clear hS; go_simp
          try simp only [Act.put, List.setIfInBounds_toArray, List.set_cons_zero, List.set_cons_succ]
          refine wpAnyH_ready (rs := [12]) (by kernel_rfl) (by simp) ?_
          refine AllReadyH.cons rfl (fun K hK => ?_) AllReadyH.nil
          refine step_storing (o := ⟨none, .store 26 (.tmp 20) (.tmp 87), _, _, _, none⟩) wx rfl 26 (.tmp 20) (.tmp 87) rfl (.agg (pcC (optP o5) V5)) ⟨G5, 0, none⟩ rfl rfl HV5.out.st ?_
          refine hK.out _ _ HSX.out (fun _ => ?_)
          clear hK K
          try simp only [Act.put, List.setIfInBounds_toArray, List.set_cons_zero, List.set_cons_succ]
          refine wpAnyH_take (i := 13) (oi := ⟨some 21, .assign (.tmp 88), _, _, _, none⟩) (v := .bool o5.isSome) rfl (by kernel_rfl) (by kernel_rfl) (by kernel_rfl) (fun _ _ _ h => h) (Or.inl ⟨by rfl, fun w' hS => ?_⟩) HSX.out ?_
          · clear hS; go_simp
          try simp only [Act.put, List.setIfInBounds_toArray, List.set_cons_zero, List.set_cons_succ]
          refine wpAnyH_done (by kernel_rfl) ?_ _
          go_wp2_with fail
          go_meet
          exact ⟨G5, o5, V5, rfl, rfl, HFIN⟩
      obtain ⟨X0, p0, V0, rfl, rfl, HFI0⟩ := hcut
      obtain ⟨wa, hwa⟩ : ∃ wa, wa = wc := ⟨_, rfl⟩
      rw [← hwa] at HFI0 ⊢
      have HFA := Lib.hid (HF.out.gr HFI0.out.ch)
      clear hwa
      as_aux_lemma =>
        have HSD1 := Lib.hid (HSD1.out.gr HFI0.out.ch)
        clear t1 wz x0
        go_upto_region 12 with fail
        go_cut [22, 23] (fun t bv wx => ∃ G5 o5 V5, t = .pointer (some ⟨G5, 0, none⟩) ∧ bv = .bool o5.isSome ∧ Hid (TldF m s 1 w4 wa wx G5 o5 V5))
        case first =>
          have HSW := Lib.hid (HSD1.out.gr (Ch.refl _ wa).drew)
          obtain ⟨wd, hwd⟩ : ∃ wd, wd = wa.drew := ⟨_, rfl⟩
          have HWD := Lib.hid (show Ch (fun _ => False) wa wd by rw [hwd]; exact (Ch.refl _ wa).drew)
          refine wp_region_held (S := (HoldFw b1 (o1 + q) G A1 n1 N1 ge)) (by kernel_rfl) ?_
          change wpAnyH _ _ _ _ _ _ _ _ (World.drew _)
          rw [← hwd] at HSW ⊢
          clear hwd
          refine wpAnyH_take (i := 0) (oi := ⟨some 90, .move (.tmp 1), _, _, _, none⟩) (v := .slice (some ⟨b1, o1, none⟩) W C1) rfl (by kernel_rfl) (by kernel_rfl) (by kernel_rfl) (fun _ _ _ h => h) (Or.inl ⟨by rfl, fun w' hS => ?_⟩) HSW.out ?_
          · clear hS; go_simp
          simp only [Act.put, List.setIfInBounds_toArray, List.set_cons_zero, List.set_cons_succ]
          refine wpAnyH_take (i := 1) (oi := ⟨some 91, .move (.tmp 19), _, _, _, none⟩) (v := .int .i64 (q : Int)) rfl (by kernel_rfl) (by kernel_rfl) (by kernel_rfl) (fun _ _ _ h => h) (Or.inl ⟨by rfl, fun w' hS => ?_⟩) HSW.out ?_
          · clear hS; go_simp
          simp only [Act.put, List.setIfInBounds_toArray, List.set_cons_zero, List.set_cons_succ]
          refine wpAnyH_take (i := 2) (oi := ⟨some 92, .indexAddr 37 (.tmp 90) (.tmp 91), _, _, _, none⟩) (v := .pointer (some ⟨b1, o1 + q, none⟩)) rfl (by kernel_rfl) (by kernel_rfl) (by kernel_rfl) (fun _ _ _ h => h) (Or.inl ⟨by rfl, fun w' hS => ?_⟩) HSW.out ?_
          · clear hS; go_simp
          simp only [Act.put, List.setIfInBounds_toArray, List.set_cons_zero, List.set_cons_succ]
          refine wpAnyH_take (i := 3) (oi := ⟨some 93, .load 24 (.tmp 92), _, _, _, none⟩) (v := .slice A1 n1 N1) rfl (by kernel_rfl) (by kernel_rfl) (by kernel_rfl) (fun _ _ _ h => h) (Or.inl ⟨by rfl, fun w' hS => ?_⟩) HSW.out ?_
          · have s := hS.c; clear hS; go_simp
          simp only [Act.put, List.setIfInBounds_toArray, List.set_cons_zero, List.set_cons_succ]
          refine wpAnyH_take (i := 4) (oi := ⟨some 94, .move (.tmp 2), _, _, _, none⟩) (v := .int .i64 vol) rfl (by kernel_rfl) (by kernel_rfl) (by kernel_rfl) (fun _ _ _ h => h) (Or.inl ⟨by rfl, fun w' hS => ?_⟩) HSW.out ?_
          · clear hS; go_simp
          simp only [Act.put, List.setIfInBounds_toArray, List.set_cons_zero, List.set_cons_succ]
          refine wpAnyH_take (i := 5) (oi := ⟨some 95, .load 23 (.tmp 9), _, _, _, none⟩) (v := .agg (geC ge)) rfl (by kernel_rfl) (by kernel_rfl) (by kernel_rfl) (fun _ _ _ h => h) (Or.inl ⟨by rfl, fun w' hS => ?_⟩) HSW.out ?_
          · have s0 := hS.x0; have s1 := hS.x1; have s2 := hS.x2; have s3 := hS.x3; clear hS; go_simp; rfl
          simp only [Act.put, List.setIfInBounds_toArray, List.set_cons_zero, List.set_cons_succ]
          refine wpAnyH_take (i := 6) (oi := ⟨some 96, .move (.tmp 19), _, _, _, none⟩) (v := .int .i64 (q : Int)) rfl (by kernel_rfl) (by kernel_rfl) (by kernel_rfl) (fun _ _ _ h => h) (Or.inl ⟨by rfl, fun w' hS => ?_⟩) HSW.out ?_
          · clear hS; go_simp
          simp only [Act.put, List.setIfInBounds_toArray, List.set_cons_zero, List.set_cons_succ]
          refine wpAnyH_ready (rs := [7, 11]) (by kernel_rfl) (by simp) ?_
          refine AllReadyH.cons rfl (fun K hK => ?_) (AllReadyH.cons rfl (fun K hK => ?_) AllReadyH.nil)
          · go_simp
            refine (HTO1.out wd (HFI0.out.ch.trans HWD.out)).mono ?_
            rintro e w5 ⟨o5, V5, ht5, rfl, hn5, hc5⟩
            obtain ⟨wz, wx, G5, hV5⟩ := varPc (optP o5) (V := V5) (by obtain ⟨A, C, e⟩ := hn5.len; exact ⟨_, _, _, e⟩) w5
            have HS5 := Lib.hid (HSW.out.gr hc5)
            have HSZ := Lib.hid (show (HoldFw b1 (o1 + q) G A1 n1 N1 ge) wz by rw [← hV5.al]; exact (HSW.out.gr hc5).gr ((Ch.refl _ w5).alloc _ _))
            have HSX := Lib.hid ((HSW.out.gr hc5).gr hV5.ch)
            have HFIN : Hid (TldF m s 1 w4 wa wx G5 o5 V5) := Lib.hid ⟨ht5, hV5.cx, (hn5.low (HFA.out.ch.trans HWD.out).size).gr hV5.ch, (HWD.out.trans hc5).trans hV5.ch, by rw [← hV5.sz]; exact (HWD.out.trans hc5).size⟩
            have HV5 := Lib.hid hV5
            clear ht5 hn5 hc5 hV5
            dsimp only
            refine hK.out _ _ HS5.out (fun _ => ?_)
            clear hK K
            try simp only [Act.put, List.setIfInBounds_toArray, List.set_cons_zero, List.set_cons_succ]
            refine wpAnyH_take (i := 8) (oi := ⟨some 89, .move (.tmp 97), _, _, _, none⟩) (v := .tuple #[.agg (pcC (optP o5) V5), .bool o5.isSome]) rfl (by kernel_rfl) (by kernel_rfl) (by kernel_rfl) (fun _ _ _ h => h) (Or.inl ⟨by rfl, fun w' hS => ?_⟩) HS5.out ?_
            · clear hS; go_simp
            try simp only [Act.put, List.setIfInBounds_toArray, List.set_cons_zero, List.set_cons_succ]
            refine wpAnyH_take (i := 9) (oi := ⟨some 98, .extract (.tmp 89) 0, _, _, _, none⟩) (v := .agg (pcC (optP o5) V5)) rfl (by kernel_rfl) (by kernel_rfl) (by kernel_rfl) (fun _ _ _ h => h) (Or.inl ⟨by rfl, fun w' hS => ?_⟩) HS5.out ?_
            · clear hS; go_simp
            try simp only [Act.put, List.setIfInBounds_toArray, List.set_cons_zero, List.set_cons_succ]
            refine wpAnyH_take (i := 10) (oi := ⟨some 99, .extract (.tmp 89) 1, _, _, _, none⟩) (v := .bool o5.isSome) rfl (by kernel_rfl) (by kernel_rfl) (by kernel_rfl) (fun _ _ _ h => h) (Or.inl ⟨by rfl, fun w' hS => ?_⟩) HS5.out ?_
            · clear hS; go_simp
            try simp only [Act.put, List.setIfInBounds_toArray, List.set_cons_zero, List.set_cons_succ]
            refine wpAnyH_ready (rs := [11]) (by kernel_rfl) (by simp) ?_
            refine AllReadyH.cons rfl (fun K hK => ?_) AllReadyH.nil
            refine step_making (o := ⟨some 22, .alloc 26, _, _, _, none⟩) wz rfl 26 rfl (pcC pn0 (.slice none 0 0)) G5 (zero_pc _) HV5.out.sz HV5.out.al ?_
            refine hK.out _ _ HSZ.out (fun _ => ?_)
            clear hK K
            try simp only [Act.put, List.setIfInBounds_toArray, List.set_cons_zero, List.set_cons_succ]
            refine wpAnyH_ready (rs := [12]) (by kernel_rfl) (by simp) ?_
            refine AllReadyH.cons rfl (fun K hK => ?_) AllReadyH.nil
            refine step_storing (o := ⟨none, .store 26 (.tmp 22) (.tmp 98), _, _, _, none⟩) wx rfl 26 (.tmp 22) (.tmp 98) rfl (.agg (pcC (optP o5) V5)) ⟨G5, 0, none⟩ rfl rfl HV5.out.st ?_
            refine hK.out _ _ HSX.out (fun _ => ?_)
            clear hK K
            try simp only [Act.put, List.setIfInBounds_toArray, List.set_cons_zero, List.set_cons_succ]
            refine wpAnyH_take (i := 13) (oi := ⟨some 23, .assign (.tmp 99), _, _, _, none⟩) (v := .bool o5.isSome) rfl (by kernel_rfl) (by kernel_rfl) (by kernel_rfl) (fun _ _ _ h => h) (Or.inl ⟨by rfl, fun w' hS => ?_⟩) HSX.out ?_
            · clear hS; go_simp
            try simp only [Act.put, List.setIfInBounds_toArray, List.set_cons_zero, List.set_cons_succ]
            refine wpAnyH_done (by kernel_rfl) ?_ _
            go_wp2_with fail
            go_meet
            exact ⟨G5, o5, V5, rfl, rfl, HFIN⟩
          · obtain ⟨wz, G5, hZ⟩ := zePc wd
            have HZZ := Lib.hid hZ
            have HSZ := Lib.hid (HSW.out.gr hZ.ch)
            clear hZ
            refine step_making (o := ⟨some 22, .alloc 26, _, _, _, none⟩) wz rfl 26 rfl (pcC pn0 (.slice none 0 0)) G5 (zero_pc _) HZZ.out.sz HZZ.out.al ?_
            refine hK.out _ _ HSZ.out (fun _ => ?_)
            clear hK K
            try simp only [Act.put, List.setIfInBounds_toArray, List.set_cons_zero, List.set_cons_succ]
            refine wpAnyH_ready (rs := [7]) (by kernel_rfl) (by simp) ?_
            refine AllReadyH.cons rfl (fun K hK => ?_) AllReadyH.nil
            go_simp
            refine (HTO1.out wz ((HFI0.out.ch.trans HWD.out).trans HZZ.out.ch)).mono ?_
            rintro e w5 ⟨o5, V5, ht5, rfl, hn5, hc5⟩
            have hx := (hc5.block G5 (blk_lt HZZ.out.cx) (fun f => f)).trans HZZ.out.cx
            obtain ⟨wx, hV5⟩ := stPc (optP o5) hx (V := V5) (by obtain ⟨A, C, e⟩ := hn5.len; exact ⟨_, _, _, e⟩)
            have hcx : Ch (fun _ => False) wd wx := (HZZ.out.ch.trans hc5).new (hV5.ch.mono fun i _ hi => by rw [hi]; exact Nat.le_of_eq HZZ.out.sz)
            have HS5 := Lib.hid (HSZ.out.gr hc5)
            have HSX := Lib.hid (HSW.out.gr hcx)
            have HFIN : Hid (TldF m s 1 w4 wa wx G5 o5 V5) := Lib.hid ⟨ht5, hV5.cx, (hn5.set hV5.ch hx (by decide)).low ((HFA.out.ch.trans HWD.out).trans HZZ.out.ch).size, HWD.out.trans hcx, by rw [← HZZ.out.sz]; exact HWD.out.size⟩
            have HV5 := Lib.hid hV5
            clear ht5 hn5 hc5 hV5 hx hcx
            dsimp only
            refine hK.out _ _ HS5.out (fun _ => ?_)
            clear hK K
            try simp only [Act.put, List.setIfInBounds_toArray, List.set_cons_zero, List.set_cons_succ]
            refine wpAnyH_take (i := 8) (oi := ⟨some 89, .move (.tmp 97), _, _, _, none⟩) (v := .tuple #[.agg (pcC (optP o5) V5), .bool o5.isSome]) rfl (by kernel_rfl) (by kernel_rfl) (by kernel_rfl) (fun _ _ _ h => h) (Or.inl ⟨by rfl, fun w' hS => ?_⟩) HS5.out ?_
            · clear hS; go_simp
            try simp only [Act.put, List.setIfInBounds_toArray, List.set_cons_zero, List.set_cons_succ]
            refine wpAnyH_take (i := 9) (oi := ⟨some 98, .extract (.tmp 89) 0, _, _, _, none⟩) (v := .agg (pcC (optP o5) V5)) rfl (by kernel_rfl) (by kernel_rfl) (by kernel_rfl) (fun _ _ _ h => h) (Or.inl ⟨by rfl, fun w' hS => ?_⟩) HS5.out ?_
            · clear hS; go_simp
            try simp only [Act.put, List.setIfInBounds_toArray, List.set_cons_zero, List.set_cons_succ]
            refine wpAnyH_take (i := 10) (oi := ⟨some 99, .extract (.tmp 89) 1, _, _, _, none⟩) (v := .bool o5.isSome) rfl (by kernel_rfl) (by kernel_rfl) (by kernel_rfl) (fun _ _ _ h => h) (Or.inl ⟨by rfl, fun w' hS => ?_⟩) HS5.out ?_
            · clear hS; go_simp
            try simp only [Act.put, List.setIfInBounds_toArray, List.set_cons_zero, List.set_cons_succ]
            refine wpAnyH_ready (rs := [12]) (by kernel_rfl) (by simp) ?_
            refine AllReadyH.cons rfl (fun K hK => ?_) AllReadyH.nil
            refine step_storing (o := ⟨none, .store 26 (.tmp 22) (.tmp 98), _, _, _, none⟩) wx rfl 26 (.tmp 22) (.tmp 98) rfl (.agg (pcC (optP o5) V5)) ⟨G5, 0, none⟩ rfl rfl HV5.out.st ?_
            refine hK.out _ _ HSX.out (fun _ => ?_)
            clear hK K
            try simp only [Act.put, List.setIfInBounds_toArray, List.set_cons_zero, List.set_cons_succ]
            refine wpAnyH_take (i := 13) (oi := ⟨some 23, .assign (.tmp 99), _, _, _, none⟩) (v := .bool o5.isSome) rfl (by kernel_rfl) (by kernel_rfl) (by kernel_rfl) (fun _ _ _ h => h) (Or.inl ⟨by rfl, fun w' hS => ?_⟩) HSX.out ?_
            · clear hS; go_simp
            try simp only [Act.put, List.setIfInBounds_toArray, List.set_cons_zero, List.set_cons_succ]
            refine wpAnyH_done (by kernel_rfl) ?_ _
            go_wp2_with fail
            go_meet
            exact ⟨G5, o5, V5, rfl, rfl, HFIN⟩
        obtain ⟨X1, p1, V1, rfl, rfl, HFI1⟩ := hcut
        obtain ⟨wb, hwb⟩ : ∃ wb, wb = wc := ⟨_, rfl⟩
        rw [← hwb] at HFI1 ⊢
        have HFB := Lib.hid (HFA.out.gr HFI1.out.ch)
        clear hwb
        as_aux_lemma =>
          obtain ⟨i0', hi0⟩ : ∃ i, i = p0.isSome := ⟨_, rfl⟩
          obtain ⟨i1', hi1⟩ : ∃ i, i = p1.isSome := ⟨_, rfl⟩
          rw [← hi0, ← hi1]
          obtain ⟨d0, hd0⟩ : ∃ d, d = (atS p0 (s : Int)).isSome := ⟨_, rfl⟩
          obtain ⟨d1, hd1⟩ : ∃ d, d = (atS p1 (s : Int)).isSome := ⟨_, rfl⟩
          have HD0 := Lib.hid hd0.symm
          have HD1 := Lib.hid hd1.symm
          obtain ⟨s0, hs0⟩ : ∃ s0, s0 = (optP p0).seq := ⟨_, rfl⟩
          obtain ⟨s1, hs1⟩ : ∃ s1, s1 = (optP p1).seq := ⟨_, rfl⟩
          have HAT0 := Lib.hid (show d0 = (i0' && (s0 == (s : Int))) by rw [hd0, hi0, hs0]; exact at_some)
          have HAT1 := Lib.hid (show d1 = (i1' && (s1 == (s : Int))) by rw [hd1, hi1, hs1]; exact at_some)
          have HB0 := Lib.hid ((HFI1.out.ch.block X0 (blk_lt HFI0.out.var) (fun f => f)).trans HFI0.out.var)
          have HB1 := Lib.hid HFI1.out.var
          have a0 : wb.cell? ⟨X0, 0, none⟩ = some (.int .i64 s0) := by rw [hs0]; exact blk_cell HB0.out
          have a1 : wb.cell? ⟨X1, 0, none⟩ = some (.int .i64 s1) := by rw [hs1]; exact blk_cell HB1.out
          clear hi0 hi1 hd0 hd1 hs0 hs1 HTO0 HTO1
          go_upto_region 13 with fail
          go_cut [21] (fun b wx => b = .bool d0 ∧ wx = wb)
          case first =>
            cases i0'
            · go_wp2_with fail
              go_meet
              exact ⟨congrArg Value.bool HAT0.out.symm, rfl⟩
            · by_cases q2 : s0 = (s : Int)
              · have t2 : (s0 == (s : Int)) = true := by simpa using q2
                clear q2
                go_wp2_with fail
                go_meet
                exact ⟨congrArg Value.bool (by rw [HAT0.out, t2]; rfl), rfl⟩
              · have t2 : (s0 == (s : Int)) = false := by simpa using q2
                clear q2
                go_wp2_with fail
                go_meet
                exact ⟨congrArg Value.bool (by rw [HAT0.out, t2]; rfl), rfl⟩
          obtain ⟨rfl, hwc⟩ := hcut
          rw [hwc]
          clear hwc
          go_upto_region 14 with fail
          go_cut [23] (fun b wx => b = .bool d1 ∧ wx = wb)
          case first =>
            cases i1'
            · go_wp2_with fail
              go_meet
              exact ⟨congrArg Value.bool HAT1.out.symm, rfl⟩
            · by_cases q2 : s1 = (s : Int)
              · have t2 : (s1 == (s : Int)) = true := by simpa using q2
                clear q2
                go_wp2_with fail
                go_meet
                exact ⟨congrArg Value.bool (by rw [HAT1.out, t2]; rfl), rfl⟩
              · have t2 : (s1 == (s : Int)) = false := by simpa using q2
                clear q2
                go_wp2_with fail
                go_meet
                exact ⟨congrArg Value.bool (by rw [HAT1.out, t2]; rfl), rfl⟩
          obtain ⟨rfl, hwc⟩ := hcut
          rw [hwc]
          clear hwc
          clear a0 a1 HAT0 HAT1
          as_aux_lemma =>
            by_cases hnn : d0 = false ∧ d1 = false
            · as_aux_lemma =>
                obtain ⟨rfl, rfl⟩ := hnn
                have HNF := Lib.hid (show (cdM m (start + k)).find? (fitsP (lastP L) sm) = none by rw [← HS.out, tld_none HFI0.out HFI1.out HD0.out HD1.out]; rfl)
                have HCB := Lib.hid (HFI0.out.ch.trans HFI1.out.ch)
                have c0 := (HSD0.out.gr HCB.out).c
                obtain ⟨k0, hk0⟩ : ∃ b, b = cleanM m q 0 := ⟨_, rfl⟩
                obtain ⟨k1, hk1⟩ : ∃ b, b = cleanM m q 1 := ⟨_, rfl⟩
                rw [← hk0] at HCL0 HCM HCN
                rw [← hk1] at HCL1 HCM HCN
                clear hk0 hk1
                go_wp2_with fail
                refine (HCL0.out _ _ HCB.out (by rfl)).mono ?_
                rintro e w6 ⟨rfl, hc6⟩
                have HC6 := Lib.hid (HCB.out.trans hc6)
                have c1 := (HSD1.out.gr (HFI1.out.ch.trans hc6)).c
                obtain ⟨y0, _, _, _⟩ := HX4.out.gr (HF.out.ch.trans (HCB.out.trans hc6))
                rw [HGW.out] at y0
                clear c0 hc6
                go_wp2_with fail
                have g1 : IntKind.i64.wrap (4 + (W : Int)) = 4 + (W : Int) := wrapI_in (by omega) (by omega)
                have g2 : IntKind.i64.wrap (4 + (W : Int) + (q : Int)) = 4 + (W : Int) + (q : Int) := wrapI_in (by omega) (by omega)
                have HKC := Lib.hid (And.intro c1 y0)
                go_region_held3 (fun w' => w'.cell? ⟨b1, o1 + q, none⟩ = some (.slice A1 n1 N1) ∧ w'.cell? ⟨G, 0, none⟩ = some (.int .i64 (W : Int))) (first | exact kc | go_keep)
                  (first | (go_at_call 56; refine (HCL1.out _ _ (HC6.out.trans (Ch.refl _ w6).drew) (by rfl)).mono ?_; rintro e w7 ⟨rfl, hc7⟩; have HC7 := Lib.hid ((HC6.out.trans (Ch.refl _ w6).drew).trans hc7); have q5 := (Ch.refl (fun _ => False) w6).drew.trans hc7; have kc := And.intro (q5.cell HKC.out.1 (fun f => f)) (q5.cell HKC.out.2 (fun f => f))))
                clear kc q5 hc7 c1 y0 g1 g2
                have HFZ := Lib.hid (HF.out.gr HC7.out)
                cases k0
                · cases k1
                  · obtain ⟨w9, h9, hp9⟩ := fol_err (HF.out.hurt (by rw [← HW.out]; exact HLT.out) HNF.out (by rw [← HS.out]; exact HCM.out rfl rfl)) (HC4.out.trans HFZ.out.ch) ((HFZ.out.ch.block T (blk_lt HT4.out) (fun f => f)).trans HT4.out) HTL.out
                    have H9 := Lib.hid h9
                    have HP9 := Lib.hid hp9
                    have HBT := Lib.hid (built_tl0 w7)
                    clear h9 hp9
                    go_wp2_with (first
                      | ((with_reducible refine wpList_isOp (.build 40 #[]) rfl ?_); refine wpList_building _ rfl 40 #[] rfl _ (by exact HBT.out) ?_)
                      | ((with_reducible refine wpList_isOp (.store 40 (.tmp 12) (.tmp 145)) rfl ?_); refine wpList_storing _ w9 rfl 40 (.tmp 12) (.tmp 145) rfl (.agg (tlC tl0 0 (.slice none 0 0))) ⟨T, 0, none⟩ rfl rfl (by exact H9.out.st) ?_)
                      | fail)
                    exact bodyPost_ret (v := .tuple #[.agg (tlC tl0 0 (.slice none 0 0)), .int .i64 22]) (results_tl Tryz.results22 _ _ T tl0 0 (.slice none 0 0) (.int .i64 22) (by kernel_rfl) (by kernel_rfl) H9.out.cx) rfl HP9.out
                  · have HALL := Lib.hid (HF.out.ended (by rw [← HW.out]; exact HLT.out) HNF.out (by rw [← HS.out]; exact HCN.out (Or.inr rfl)))
                    obtain ⟨tl, htl⟩ : ∃ tl, tl = tailR (sumM m) (pvP L) start chain := ⟨_, rfl⟩
                    obtain ⟨ep, hep⟩ : ∃ ep, ep = epR (pvP L) := ⟨_, rfl⟩
                    have HEQ := Lib.hid (And.intro htl hep)
                    clear htl hep
                    go_wp2_with fail
                    refine (fol_end HFZ.out (by have := HK.out; have := HWB.out; omega) HST.out).mono ?_
                    rintro e wE ⟨VE, rfl, htE, hcE⟩
                    obtain ⟨AE, CE, nE, w9, rfl, h9, hp9⟩ := fol_fin HALL.out (HC4.out.trans HFZ.out.ch) htE hcE ((HFZ.out.ch.block T (blk_lt HT4.out) (fun f => f)).trans HT4.out) HTL.out
                    rw [← HEQ.out.1, ← HEQ.out.2] at h9 hp9 ⊢
                    have H9 := Lib.hid h9
                    have HP9 := Lib.hid hp9
                    clear htE hcE h9 hp9
                    go_wp2_with (first | ((with_reducible refine wpList_isOp (.store 40 (.tmp 12) (.tmp 200)) rfl ?_); refine wpList_storing _ w9 rfl 40 (.tmp 12) (.tmp 200) rfl (.agg (tlC tl ep (.slice AE nE CE))) ⟨T, 0, none⟩ rfl rfl (by exact H9.out.st) ?_) | fail)
                    refine bodyPost_ret (v := .tuple #[.agg (tlC tl ep (.slice AE nE CE)), .int .i64 0]) ?_ rfl HP9.out
                    refine results_tl Tryz.results22 _ _ T tl ep (.slice AE nE CE) (.int .i64 0) ?_ ?_ H9.out.cx
                    · kernel_rfl --A
                    · kernel_rfl --B
                · have HALL := Lib.hid (HF.out.ended (by rw [← HW.out]; exact HLT.out) HNF.out (by rw [← HS.out]; exact HCN.out (Or.inl rfl)))
                  obtain ⟨tl, htl⟩ : ∃ tl, tl = tailR (sumM m) (pvP L) start chain := ⟨_, rfl⟩
                  obtain ⟨ep, hep⟩ : ∃ ep, ep = epR (pvP L) := ⟨_, rfl⟩
                  have HEQ := Lib.hid (And.intro htl hep)
                  clear htl hep
                  go_wp2_with fail
                  refine (fol_end HFZ.out (by have := HK.out; have := HWB.out; omega) HST.out).mono ?_
                  rintro e wE ⟨VE, rfl, htE, hcE⟩
                  obtain ⟨AE, CE, nE, w9, rfl, h9, hp9⟩ := fol_fin HALL.out (HC4.out.trans HFZ.out.ch) htE hcE ((HFZ.out.ch.block T (blk_lt HT4.out) (fun f => f)).trans HT4.out) HTL.out
                  rw [← HEQ.out.1, ← HEQ.out.2] at h9 hp9 ⊢
                  have H9 := Lib.hid h9
                  have HP9 := Lib.hid hp9
                  clear htE hcE h9 hp9
                  go_wp2_with (first | ((with_reducible refine wpList_isOp (.store 40 (.tmp 12) (.tmp 200)) rfl ?_); refine wpList_storing _ w9 rfl 40 (.tmp 12) (.tmp 200) rfl (.agg (tlC tl ep (.slice AE nE CE))) ⟨T, 0, none⟩ rfl rfl (by exact H9.out.st) ?_) | fail)
                  refine bodyPost_ret (v := .tuple #[.agg (tlC tl ep (.slice AE nE CE)), .int .i64 0]) ?_ rfl HP9.out
                  refine results_tl Tryz.results22 _ _ T tl ep (.slice AE nE CE) (.int .i64 0) ?_ ?_ H9.out.cx
                  · kernel_rfl --A
                  · kernel_rfl --B
            · as_aux_lemma =>
                have hnn2 : d0 = true ∨ d1 = true := nn_of hnn
                have HNN := Lib.hid hnn2
                have HCLN := Lib.hid (swF_clean HFI0.out HFI1.out HD0.out HD1.out hnn2)
                clear hnn hnn2
                go_upto_region 15 with fail
                go_cut [119] (fun b wx => b = .bool false ∧ wx = wb)
                case first =>
                  cases d0
                  · cases d1
                    · exact absurd HNN.out (by decide)
                    · go_wp2_with fail
                      go_meet
                      exact ⟨rfl, rfl⟩
                  · go_wp2_with fail
                    go_meet
                    exact ⟨rfl, rfl⟩
                obtain ⟨rfl, hwc⟩ := hcut
                rw [hwc]
                clear hwc
                obtain ⟨e0, he0⟩ : ∃ e0, e0 = (optP p0).ep := ⟨_, rfl⟩
                obtain ⟨e1, he1⟩ : ∃ e1, e1 = (optP p1).ep := ⟨_, rfl⟩
                have a0 : wb.cell? ⟨X0, 1, none⟩ = some (.int .i64 e0) := by rw [he0]; exact blk_cell HB0.out
                have a1 : wb.cell? ⟨X1, 1, none⟩ = some (.int .i64 e1) := by rw [he1]; exact blk_cell HB1.out
                obtain ⟨sw, hsw⟩ : ∃ sw, sw = (d1 && (!d0 || decide (e0 < e1))) := ⟨_, rfl⟩
                have HSW := Lib.hid hsw
                have HEE := Lib.hid (And.intro he0 he1)
                clear hsw he0 he1
                go_upto_region 20 with fail
                go_cut [157] (fun b wx => b = .bool sw ∧ wx = wb)
                case first =>
                  cases d1
                  · go_wp2_with fail
                    go_meet
                    exact ⟨congrArg Value.bool (by rw [HSW.out]; rfl), rfl⟩
                  · cases d0
                    · go_wp2_with fail
                      go_meet
                      exact ⟨congrArg Value.bool (by rw [HSW.out]; rfl), rfl⟩
                    · by_cases q2 : e0 < e1
                      · have t2 : decide (e0 < e1) = true := decide_eq_true q2
                        clear q2
                        go_wp2_with fail
                        go_meet
                        exact ⟨congrArg Value.bool (by rw [HSW.out, t2]; rfl), rfl⟩
                      · have t2 : decide (e0 < e1) = false := decide_eq_false q2
                        clear q2
                        go_wp2_with fail
                        go_meet
                        exact ⟨congrArg Value.bool (by rw [HSW.out, t2]; rfl), rfl⟩
                obtain ⟨rfl, hwc⟩ := hcut
                rw [hwc]
                clear hwc
                clear a0 a1
                as_aux_lemma =>
                  go_upto_if 157 with fail
                  go_cut [21, 23] (fun a b wx => ∃ P1 W1 P2 W2 bb, b = .bool bb ∧ Hid (SwF m s w4 wr wx X0 X1 P1 W1 P2 W2 bb))
                  case first =>
                    cases sw
                    · have hsn := sw_no HFI0.out HFI1.out HD0.out HD1.out HNN.out (by rw [← HEE.out.1, ← HEE.out.2]; exact HSW.out.symm)
                      have HSN := Lib.hid hsn
                      clear hsn
                      go_wp2_with fail
                      go_meet
                      exact ⟨_, _, _, _, _, rfl, HSN⟩
                    · obtain ⟨wz, wv, wu, wt, Z, hx, hsy⟩ := sw_yes HF.out.ch HFI0.out HFI1.out HD0.out HD1.out (by rw [← HEE.out.1, ← HEE.out.2]; exact HSW.out.symm)
                      have HSY := Lib.hid hsy
                      have HX := Lib.hid hx
                      have HL0 := Lib.hid (load_pc HB0.out)
                      have hd1 : d1 = true := and_fst HSW.out.symm
                      subst hd1
                      clear hsy hx
                      go_wp2_with (first
                        | ((with_reducible refine wpList_isOp (.load 26 (.tmp 20)) rfl ?_); refine wpList_loading _ rfl 26 (.tmp 20) rfl (.agg (pcC (optP p0) V0)) ⟨X0, 0, none⟩ rfl (by exact HL0.out) ?_)
                        | ((with_reducible refine wpList_isOp (.alloc 26) rfl ?_); refine wpList_making _ wz rfl 26 rfl (pcC pn0 (.slice none 0 0)) Z (zero_pc _) (by exact HX.out.z.sz) (by exact HX.out.z.al) ?_)
                        | ((with_reducible refine wpList_isOp (.store 26 (.tmp 26) (.tmp 158)) rfl ?_); refine wpList_storing _ wv rfl 26 (.tmp 26) (.tmp 158) rfl (.agg (pcC (optP p0) V0)) ⟨Z, 0, none⟩ rfl rfl (by exact HX.out.z.st) ?_)
                        | ((with_reducible refine wpList_isOp (.load 26 (.tmp 22)) rfl ?_); refine wpList_loading _ rfl 26 (.tmp 22) rfl (.agg (pcC (optP p1) V1)) ⟨X1, 0, none⟩ rfl (by exact HX.out.l1) ?_)
                        | ((with_reducible refine wpList_isOp (.store 26 (.tmp 20) (.tmp 159)) rfl ?_); refine wpList_storing _ wu rfl 26 (.tmp 20) (.tmp 159) rfl (.agg (pcC (optP p1) V1)) ⟨X0, 0, none⟩ rfl rfl (by exact HX.out.u.st) ?_)
                        | ((with_reducible refine wpList_isOp (.load 26 (.tmp 26)) rfl ?_); refine wpList_loading _ rfl 26 (.tmp 26) rfl (.agg (pcC (optP p0) V0)) ⟨Z, 0, none⟩ rfl (by exact HX.out.l2) ?_)
                        | ((with_reducible refine wpList_isOp (.store 26 (.tmp 22) (.tmp 160)) rfl ?_); refine wpList_storing _ wt rfl 26 (.tmp 22) (.tmp 160) rfl (.agg (pcC (optP p0) V0)) ⟨X1, 0, none⟩ rfl rfl (by exact HX.out.t.st) ?_)
                        | fail)
                      go_meet
                      exact ⟨_, _, _, _, _, rfl, HSY⟩
                  obtain ⟨P1, W1, P2, W2, bb, rfl, HSF⟩ := hcut
                  obtain ⟨AW, CW, hW2⟩ := HSF.out.ry.len
                  obtain ⟨nw, hnw⟩ : ∃ nw, nw = P2.B.length := ⟨_, rfl⟩
                  rw [← hnw] at hW2
                  subst hW2
                  clear hnw
                  obtain ⟨wS, hwS⟩ : ∃ wS, wS = wc := ⟨_, rfl⟩
                  rw [← hwS] at HSF ⊢
                  have HFS := Lib.hid (HF.out.gr HSF.out.ch)
                  have HLX1 := Lib.hid (load_pc HSF.out.x)
                  have HFT := Lib.hid (fun (w' : World) (k' : Ch (fun _ => False) wS w') (p : Pn) (V : Value) => r11fits_any p V A15 C15 L sm w' (((by have := HFS.out.own; rw [← HLEN.out] at this; exact this.read (by rw [HLEN.out]; have := HK.out; have := HWB.out; omega) : RwV kdP elP wS A15 C15 L)).gr k') (fun i x hx => (HFS.out.ok i x hx).may.ofn.1) (by rw [HLEN.out]; have := HK.out; have := HWB.out; omega))
                  rw [HLEN.out] at HFT
                  clear hwS
                  cases f1 : fitsP (lastP L) sm P1
                  · have HF1 := Lib.hid f1
                    cases bb
                    · as_aux_lemma =>
                        have HNF := Lib.hid (show (cdM m (start + k)).find? (fitsP (lastP L) sm) = none by rw [← HS.out]; exact swF_none HSF.out f1 (fun e => by cases e))
                        have HALL := Lib.hid (HF.out.ended (by rw [← HW.out]; exact HLT.out) HNF.out (by rw [← HS.out]; exact HCLN.out))
                        clear f1
                        go_wp2_with (first
                          | ((with_reducible refine wpList_isOp (.load 26 (.tmp 20)) rfl ?_); refine wpList_loading _ rfl 26 (.tmp 20) rfl (.agg (pcC P1 W1)) ⟨X0, 0, none⟩ rfl (by exact HLX1.out) ?_)
                          | (go_at_call 57; refine (HFT.out wS (Ch.refl _ wS) P1 W1).mono ?_; rintro e w6 ⟨rfl, hc6⟩; rw [HF1.out]; have HFZ := Lib.hid (HFS.out.gr hc6))
                          | fail)
                        clear hc6
                        obtain ⟨tl, htl⟩ : ∃ tl, tl = tailR (sumM m) (pvP L) start chain := ⟨_, rfl⟩
                        obtain ⟨ep, hep⟩ : ∃ ep, ep = epR (pvP L) := ⟨_, rfl⟩
                        have HEQ := Lib.hid (And.intro htl hep)
                        clear htl hep
                        go_wp2_with fail
                        refine (fol_end HFZ.out (by have := HK.out; have := HWB.out; omega) HST.out).mono ?_
                        rintro e wE ⟨VE, rfl, htE, hcE⟩
                        obtain ⟨AE, CE, nE, w9, rfl, h9, hp9⟩ := fol_fin HALL.out (HC4.out.trans HFZ.out.ch) htE hcE ((HFZ.out.ch.block T (blk_lt HT4.out) (fun f => f)).trans HT4.out) HTL.out
                        rw [← HEQ.out.1, ← HEQ.out.2] at h9 hp9 ⊢
                        have H9 := Lib.hid h9
                        have HP9 := Lib.hid hp9
                        clear htE hcE h9 hp9
                        go_wp2_with (first | ((with_reducible refine wpList_isOp (.store 40 (.tmp 12) (.tmp 200)) rfl ?_); refine wpList_storing _ w9 rfl 40 (.tmp 12) (.tmp 200) rfl (.agg (tlC tl ep (.slice AE nE CE))) ⟨T, 0, none⟩ rfl rfl (by exact H9.out.st) ?_) | fail)
                        refine bodyPost_ret (v := .tuple #[.agg (tlC tl ep (.slice AE nE CE)), .int .i64 0]) ?_ rfl HP9.out
                        refine results_tl Tryz.results22 _ _ T tl ep (.slice AE nE CE) (.int .i64 0) ?_ ?_ H9.out.cx
                        · kernel_rfl --A
                        · kernel_rfl --B
                    · cases f2 : fitsP (lastP L) sm P2
                      · as_aux_lemma =>
                          have HNF := Lib.hid (show (cdM m (start + k)).find? (fitsP (lastP L) sm) = none by rw [← HS.out]; exact swF_none HSF.out f1 (fun _ => f2))
                          have HALL := Lib.hid (HF.out.ended (by rw [← HW.out]; exact HLT.out) HNF.out (by rw [← HS.out]; exact HCLN.out))
                          have HF2 := Lib.hid f2
                          clear f1 f2
                          go_upto_region 28 with (first
                            | ((with_reducible refine wpList_isOp (.load 26 (.tmp 20)) rfl ?_); refine wpList_loading _ rfl 26 (.tmp 20) rfl (.agg (pcC P1 W1)) ⟨X0, 0, none⟩ rfl (by exact HLX1.out) ?_)
                            | (go_at_call 57; refine (HFT.out wS (Ch.refl _ wS) P1 W1).mono ?_; rintro e w6 ⟨rfl, hc6⟩; rw [HF1.out]; have HC6 := Lib.hid hc6)
                            | fail)
                          obtain ⟨z0, z1, z2, z3, z4, z5, z6⟩ := pc_x ((HC6.out.block X1 (blk_lt HSF.out.y) (fun f => f)).trans HSF.out.y)
                          go_wp2_with (first
                            | (go_at_call 57; refine (HFT.out w6 HC6.out P2 (.slice AW nw CW)).mono ?_; rintro e w7 ⟨rfl, hc7⟩; rw [HF2.out]; have HFZ := Lib.hid (HFS.out.gr (HC6.out.trans hc7)); clear hc7)
                            | fail)
                          obtain ⟨tl, htl⟩ : ∃ tl, tl = tailR (sumM m) (pvP L) start chain := ⟨_, rfl⟩
                          obtain ⟨ep, hep⟩ : ∃ ep, ep = epR (pvP L) := ⟨_, rfl⟩
                          have HEQ := Lib.hid (And.intro htl hep)
                          clear htl hep
                          go_wp2_with fail
                          refine (fol_end HFZ.out (by have := HK.out; have := HWB.out; omega) HST.out).mono ?_
                          rintro e wE ⟨VE, rfl, htE, hcE⟩
                          obtain ⟨AE, CE, nE, w9, rfl, h9, hp9⟩ := fol_fin HALL.out (HC4.out.trans HFZ.out.ch) htE hcE ((HFZ.out.ch.block T (blk_lt HT4.out) (fun f => f)).trans HT4.out) HTL.out
                          rw [← HEQ.out.1, ← HEQ.out.2] at h9 hp9 ⊢
                          have H9 := Lib.hid h9
                          have HP9 := Lib.hid hp9
                          clear htE hcE h9 hp9
                          go_wp2_with (first | ((with_reducible refine wpList_isOp (.store 40 (.tmp 12) (.tmp 200)) rfl ?_); refine wpList_storing _ w9 rfl 40 (.tmp 12) (.tmp 200) rfl (.agg (tlC tl ep (.slice AE nE CE))) ⟨T, 0, none⟩ rfl rfl (by exact H9.out.st) ?_) | fail)
                          refine bodyPost_ret (v := .tuple #[.agg (tlC tl ep (.slice AE nE CE)), .int .i64 0]) ?_ rfl HP9.out
                          refine results_tl Tryz.results22 _ _ T tl ep (.slice AE nE CE) (.int .i64 0) ?_ ?_ H9.out.cx
                          · kernel_rfl --A
                          · kernel_rfl --B
                      · as_aux_lemma =>
                          have HF2 := Lib.hid f2
                          clear f1 f2
                          go_upto_region 28 with (first
                            | ((with_reducible refine wpList_isOp (.load 26 (.tmp 20)) rfl ?_); refine wpList_loading _ rfl 26 (.tmp 20) rfl (.agg (pcC P1 W1)) ⟨X0, 0, none⟩ rfl (by exact HLX1.out) ?_)
                            | (go_at_call 57; refine (HFT.out wS (Ch.refl _ wS) P1 W1).mono ?_; rintro e w6 ⟨rfl, hc6⟩; rw [HF1.out]; have HC6 := Lib.hid hc6)
                            | fail)
                          obtain ⟨z0, z1, z2, z3, z4, z5, z6⟩ := pc_x ((HC6.out.block X1 (blk_lt HSF.out.y) (fun f => f)).trans HSF.out.y)
                          go_upto_region 30 with (first
                            | (go_at_call 57; refine (HFT.out w6 HC6.out P2 (.slice AW nw CW)).mono ?_; rintro e w7 ⟨rfl, hc7⟩; rw [HF2.out]; have HC7 := Lib.hid (HC6.out.trans hc7); clear hc7; obtain ⟨wn, hl2, hn2, hrd⟩ := swF_rdy2 HF.out HSF.out HC7.out HF1.out HF2.out; have HLY2 := Lib.hid hl2; have HN2 := Lib.hid hn2; have HRD := Lib.hid hrd; clear hl2 hn2 hrd)
                            | ((with_reducible refine wpList_isOp (.load 26 (.tmp 22)) rfl ?_); refine wpList_loading _ rfl 26 (.tmp 22) rfl (.agg (pcC P2 (.slice AW nw CW))) ⟨X1, 0, none⟩ rfl (by exact HLY2.out) ?_)
                            | ((with_reducible refine wpList_isOp (.store 26 (.tmp 20) (.tmp 178)) rfl ?_); refine wpList_storing _ wn rfl 26 (.tmp 20) (.tmp 178) rfl (.agg (pcC P2 (.slice AW nw CW))) ⟨X0, 0, none⟩ rfl rfl (by exact HN2.out.st) ?_)
                            | fail)
                          obtain ⟨g, cap, w7, haf⟩ := HRD.out.app (by have := HK.out; have := HWB.out; omega)
                          obtain ⟨Ws, hWs⟩ : ∃ Ws, Ws = wn.alloc (.cells (pcC P2 (.slice AW nw CW)) 26) := ⟨_, rfl⟩
                          obtain ⟨Xs, hXs⟩ : ∃ Xs, Xs = wn.heap.size := ⟨_, rfl⟩
                          obtain ⟨k1, hk1⟩ : ∃ k1, k1 = k + 1 := ⟨_, rfl⟩
                          have hsl := slice_pc wn P2 (.slice AW nw CW)
                          have hap := haf.mid.run
                          rw [← hWs, ← hXs] at hsl
                          rw [← hWs, ← hXs, ← hk1] at hap
                          have HLX := Lib.hid (load_pc HRD.out.x)
                          have HL7 := Lib.hid (load_pc haf.x)
                          have HSL := Lib.hid hsl
                          have HAP := Lib.hid hap
                          have HAF := Lib.hid haf
                          have HK1 := Lib.hid hk1
                          obtain ⟨y0, y1, y2, y3⟩ := HX4.out.gr haf.mid.ch
                          have HSE := Lib.hid (r11sec_any vol ge 0 P2 (.slice AW nw CW) w7 (by rw [HVO.out]; exact HVN.out) haf.pc)
                          clear hWs hXs hk1 hsl hap haf
                          go_wp2_with (first
                            | ((with_reducible refine wpList_isOp (.load 26 (.tmp 20)) rfl ?_); refine wpList_loading _ rfl 26 (.tmp 20) rfl (.agg (pcC P2 (.slice AW nw CW))) ⟨X0, 0, none⟩ rfl (by exact HLX.out) ?_)
                            | ((with_reducible refine wpList_isOp (.buildSlice 102 1 #[(0, .tmp 180)]) rfl ?_); refine wpList_slicing1 _ Ws rfl 102 0 1 (.tmp 180) rfl (.agg (pcC P2 (.slice AW nw CW))) (.slice (some ⟨Xs, 0, none⟩) 1 1) rfl (by exact HSL.out) ?_)
                            | ((with_reducible refine wpList_isOp (.call { callee := .builtin .append, args := #[.tmp 179, .tmp 181], argTypes := #[ 102, 102] }) rfl ?_); refine wpList_appK_of 102 _ rfl (.tmp 179) (.tmp 181) rfl rfl (.slice A15 k C15) (.slice (some ⟨Xs, 0, none⟩) 1 1) (.slice (some ⟨g, 0, none⟩) k1 cap) w7 rfl rfl (by exact HAP.out) ?_)
                            | ((with_reducible refine wpList_isOp (.load 26 (.tmp 20)) rfl ?_); refine wpList_loading _ rfl 26 (.tmp 20) rfl (.agg (pcC P2 (.slice AW nw CW))) ⟨X0, 0, none⟩ rfl (by exact HL7.out) ?_)
                            | fail)
                          refine HSE.out.mono ?_
                          rintro e w8 ⟨A8, C8, rfl, ho8, hc8⟩
                          have hrok : rokB vol ge 0 P2 = true := by rw [HVO.out, HGE.out]; exact HRD.out.cd.rok
                          have e8 : secRN vol ge 0 P2 = 256 := by unfold secRN; rw [hrok]; rfl
                          have f8 : secRE vol ge 0 P2 = 0 := by unfold secRE; rw [hrok]; rfl
                          rw [e8] at ho8
                          rw [e8, f8]
                          have HR8 := Lib.hid (ownsRow_rowV ho8 (by omega) (sectR_b HRD.out.cd.byt _))
                          obtain ⟨s2, hs2⟩ : ∃ s2 : Int, s2 = (Crc.sumZ 256 (sectR vol ge 0 P2) : Int) := ⟨_, rfl⟩
                          have HS2 := Lib.hid hs2
                          obtain ⟨g2, cap2, w9, hrun, hfn⟩ := fol_next (s2 := s2) HRD.out.fol HAF.out.mid (by rw [← HW.out]; exact HLT.out) (by have := HK.out; have := HWB.out; omega) (by rw [← HS.out]; exact HRD.out.find) (by rw [← HS.out]; exact HRD.out.cd) hc8 (by rw [hs2]; unfold sumM sumR; rw [HVO.out, HGE.out])
                          rw [← HK1.out] at hrun hfn
                          have HRUN := Lib.hid hrun
                          have HFN := Lib.hid hfn
                          have HKN := Lib.hid (show k1 ≤ W by rw [HK1.out]; exact HLT.out)
                          clear hrok e8 f8 ho8 hc8 hrun hfn hs2 y0 y1 y2 y3
                          go_wp2_with (first
                            | (go_at_call 58; refine (rsum_any _ _ _ _ _ HR8.out).mono ?_; rintro e w' ⟨rfl, rfl⟩; rw [← HS2.out])
                            | (at_builtin; refine wpList_appI _ rfl (.tmp 192) (.tmp 194) rfl rfl _ _ (.slice (some ⟨g2, 0, none⟩) k1 cap2) w9 rfl rfl (by exact HRUN.out) ?_)
                            | fail)
                          go_roundw
                          case rel =>
                                    exact ⟨k1, L ++ [⟨P2, .slice AW nw CW⟩], s2, rfl, by rw [HK1.out, HS.out]; go_num, HKN, HFN⟩
                          case measure => exact meas_s (by have := HLT.out; have := HS.out; omega)
                  · as_aux_lemma =>
                      have HF1 := Lib.hid f1
                      have hrd := swF_rdy1 HF.out HSF.out f1
                      clear f1
                      go_upto_region 30 with (first
                        | ((with_reducible refine wpList_isOp (.load 26 (.tmp 20)) rfl ?_); refine wpList_loading _ rfl 26 (.tmp 20) rfl (.agg (pcC P1 W1)) ⟨X0, 0, none⟩ rfl (by exact HLX1.out) ?_)
                        | (go_at_call 57; refine (HFT.out wS (Ch.refl _ wS) P1 W1).mono ?_; rintro e w6 ⟨rfl, hc6⟩; rw [HF1.out]; have HRD := Lib.hid (hrd.gr hc6); clear hc6 hrd)
                        | fail)
                      obtain ⟨g, cap, w7, haf⟩ := HRD.out.app (by have := HK.out; have := HWB.out; omega)
                      obtain ⟨Ws, hWs⟩ : ∃ Ws, Ws = w6.alloc (.cells (pcC P1 W1) 26) := ⟨_, rfl⟩
                      obtain ⟨Xs, hXs⟩ : ∃ Xs, Xs = w6.heap.size := ⟨_, rfl⟩
                      obtain ⟨k1, hk1⟩ : ∃ k1, k1 = k + 1 := ⟨_, rfl⟩
                      have hsl := slice_pc w6 P1 W1
                      have hap := haf.mid.run
                      rw [← hWs, ← hXs] at hsl
                      rw [← hWs, ← hXs, ← hk1] at hap
                      have HLX := Lib.hid (load_pc HRD.out.x)
                      have HL7 := Lib.hid (load_pc haf.x)
                      have HSL := Lib.hid hsl
                      have HAP := Lib.hid hap
                      have HAF := Lib.hid haf
                      have HK1 := Lib.hid hk1
                      obtain ⟨y0, y1, y2, y3⟩ := HX4.out.gr haf.mid.ch
                      have HSE := Lib.hid (r11sec_any vol ge 0 P1 W1 w7 (by rw [HVO.out]; exact HVN.out) haf.pc)
                      clear hWs hXs hk1 hsl hap haf
                      go_wp2_with (first
                        | ((with_reducible refine wpList_isOp (.load 26 (.tmp 20)) rfl ?_); refine wpList_loading _ rfl 26 (.tmp 20) rfl (.agg (pcC P1 W1)) ⟨X0, 0, none⟩ rfl (by exact HLX.out) ?_)
                        | ((with_reducible refine wpList_isOp (.buildSlice 102 1 #[(0, .tmp 180)]) rfl ?_); refine wpList_slicing1 _ Ws rfl 102 0 1 (.tmp 180) rfl (.agg (pcC P1 W1)) (.slice (some ⟨Xs, 0, none⟩) 1 1) rfl (by exact HSL.out) ?_)
                        | ((with_reducible refine wpList_isOp (.call { callee := .builtin .append, args := #[.tmp 179, .tmp 181], argTypes := #[ 102, 102] }) rfl ?_); refine wpList_appK_of 102 _ rfl (.tmp 179) (.tmp 181) rfl rfl (.slice A15 k C15) (.slice (some ⟨Xs, 0, none⟩) 1 1) (.slice (some ⟨g, 0, none⟩) k1 cap) w7 rfl rfl (by exact HAP.out) ?_)
                        | ((with_reducible refine wpList_isOp (.load 26 (.tmp 20)) rfl ?_); refine wpList_loading _ rfl 26 (.tmp 20) rfl (.agg (pcC P1 W1)) ⟨X0, 0, none⟩ rfl (by exact HL7.out) ?_)
                        | fail)
                      refine HSE.out.mono ?_
                      rintro e w8 ⟨A8, C8, rfl, ho8, hc8⟩
                      have hrok : rokB vol ge 0 P1 = true := by rw [HVO.out, HGE.out]; exact HRD.out.cd.rok
                      have e8 : secRN vol ge 0 P1 = 256 := by unfold secRN; rw [hrok]; rfl
                      have f8 : secRE vol ge 0 P1 = 0 := by unfold secRE; rw [hrok]; rfl
                      rw [e8] at ho8
                      rw [e8, f8]
                      have HR8 := Lib.hid (ownsRow_rowV ho8 (by omega) (sectR_b HRD.out.cd.byt _))
                      obtain ⟨s2, hs2⟩ : ∃ s2 : Int, s2 = (Crc.sumZ 256 (sectR vol ge 0 P1) : Int) := ⟨_, rfl⟩
                      have HS2 := Lib.hid hs2
                      obtain ⟨g2, cap2, w9, hrun, hfn⟩ := fol_next (s2 := s2) HRD.out.fol HAF.out.mid (by rw [← HW.out]; exact HLT.out) (by have := HK.out; have := HWB.out; omega) (by rw [← HS.out]; exact HRD.out.find) (by rw [← HS.out]; exact HRD.out.cd) hc8 (by rw [hs2]; unfold sumM sumR; rw [HVO.out, HGE.out])
                      rw [← HK1.out] at hrun hfn
                      have HRUN := Lib.hid hrun
                      have HFN := Lib.hid hfn
                      have HKN := Lib.hid (show k1 ≤ W by rw [HK1.out]; exact HLT.out)
                      clear hrok e8 f8 ho8 hc8 hrun hfn hs2 y0 y1 y2 y3
                      go_wp2_with (first
                        | (go_at_call 58; refine (rsum_any _ _ _ _ _ HR8.out).mono ?_; rintro e w' ⟨rfl, rfl⟩; rw [← HS2.out])
                        | (at_builtin; refine wpList_appI _ rfl (.tmp 192) (.tmp 194) rfl rfl _ _ (.slice (some ⟨g2, 0, none⟩) k1 cap2) w9 rfl rfl (by exact HRUN.out) ?_)
                        | fail)
                      go_roundw
                      case rel =>
                            exact ⟨k1, L ++ [⟨P1, W1⟩], s2, rfl, by rw [HK1.out, HS.out]; go_num, HKN, HFN⟩
                      case measure => exact meas_s (by have := HLT.out; have := HS.out; omega)
    · as_aux_lemma =>
        obtain rfl : k = W := by have := HK.out; omega
        have t1 : decide ((s : Int) < (start : Int) + (k : Int)) = false := by have := HS.out; simp; omega
        have HFZ := Lib.hid HF.out
        have HALL := Lib.hid (show allI m start chain = (pvP L, false) from (HF.out : FolW m start chain w4 wr k L _ _ sm).full_at HW.out)
        clear HF
        obtain ⟨tl, htl⟩ : ∃ tl, tl = tailR (sumM m) (pvP L) start chain := ⟨_, rfl⟩
        obtain ⟨ep, hep⟩ : ∃ ep, ep = epR (pvP L) := ⟨_, rfl⟩
        have HEQ := Lib.hid (And.intro htl hep)
        clear htl hep
        go_wp2_with fail
        refine (fol_end HFZ.out (by have := HK.out; have := HWB.out; omega) HST.out).mono ?_
        rintro e wE ⟨VE, rfl, htE, hcE⟩
        obtain ⟨AE, CE, nE, w9, rfl, h9, hp9⟩ := fol_fin HALL.out (HC4.out.trans HFZ.out.ch) htE hcE ((HFZ.out.ch.block T (blk_lt HT4.out) (fun f => f)).trans HT4.out) HTL.out
        rw [← HEQ.out.1, ← HEQ.out.2] at h9 hp9 ⊢
        have H9 := Lib.hid h9
        have HP9 := Lib.hid hp9
        clear htE hcE h9 hp9
        go_wp2_with (first | ((with_reducible refine wpList_isOp (.store 40 (.tmp 12) (.tmp 200)) rfl ?_); refine wpList_storing _ w9 rfl 40 (.tmp 12) (.tmp 200) rfl (.agg (tlC tl ep (.slice AE nE CE))) ⟨T, 0, none⟩ rfl rfl (by exact H9.out.st) ?_) | fail)
        refine bodyPost_ret (v := .tuple #[.agg (tlC tl ep (.slice AE nE CE)), .int .i64 0]) ?_ rfl HP9.out
        refine results_tl Tryz.results22 _ _ T tl ep (.slice AE nE CE) (.int .i64 0) ?_ ?_ H9.out.cx
        · kernel_rfl --A
        · kernel_rfl --B
end Go.Proofs.YteleknojohnlbaaGreat
