/-
  ring.whole and joined, walked: which of the pieces that were taken are a transaction, and its bytes.
-/
import Derived.Test.YteleknojohnlbaaGreatMc26
import Derived.Test.YteleknojohnlbaaGreatMc14
namespace Go.Proofs.YteleknojohnlbaaGreat
open Go.RowKit
set_option linter.unusedVariables false
set_option maxRecDepth 100000
def okAt (L : List Pn) (f : Int) (i : Nat) : Bool := match L[i]? with | some p => decide (p.ix = (i : Int)) && decide (p.ofn = f) | none => false
def wholeR (L : List Pn) : Nat := match L[0]? with
  | none => 0
  | some p => if p.ofn.toNat ≤ L.length ∧ ∀ i, i < p.ofn.toNat → okAt L p.ofn i = true then p.ofn.toNat else 0
theorem whole_nil : wholeR [] = 0 := rfl
theorem whole_some {L : List Pn} {p : Pn} (h : L[0]? = some p) : wholeR L = if p.ofn.toNat ≤ L.length ∧ ∀ i, i < p.ofn.toNat → okAt L p.ofn i = true then p.ofn.toNat else 0 := by unfold wholeR; rw [h]
theorem whole_le (L : List Pn) : wholeR L ≤ L.length := by
  cases h : L[0]? with
  | none => unfold wholeR; rw [h]; exact Nat.zero_le _
  | some p => rw [whole_some h]; split <;> omega
theorem okAt_some {L : List Pn} {f : Int} {i : Nat} {p : Pn} (h : L[i]? = some p) : okAt L f i = (decide (p.ix = (i : Int)) && decide (p.ofn = f)) := by unfold okAt; rw [h]
def joinP (L : List Pn) : List Nat := L.flatMap Pn.B
def lnP (L : List Lk) : List Pn := L.map Lk.p
structure LkX (w : World) (b o : Nat) (x : Lk) : Prop where
  x0 : w.cell? ⟨b, o, none⟩ = some (.int .i64 x.p.seq)
  x1 : w.cell? ⟨b, o + 1, none⟩ = some (.int .i64 x.p.ep)
  x2 : w.cell? ⟨b, o + 2, none⟩ = some (.int .i64 x.p.fr)
  x3 : w.cell? ⟨b, o + 3, none⟩ = some (.int .i64 x.p.ch)
  x4 : w.cell? ⟨b, o + 4, none⟩ = some (.int .i64 x.p.ix)
  x5 : w.cell? ⟨b, o + 5, none⟩ = some (.int .i64 x.p.ofn)
  x6 : w.cell? ⟨b, o + 6, none⟩ = some x.V
  x7 : w.cell? ⟨b, o + 7, none⟩ = some (.int .i64 x.sum)
theorem rwV_lk {w : World} {A : Option Addr} {C : Nat} {L : List Lk} (h : RwV kdL elL w A C L) {i : Nat} {x : Lk} (hx : L[i]? = some x) : ∃ b o, A = some ⟨b, o, none⟩ ∧ LkX w b (o + i * 8) x := by
  obtain ⟨b, o, hA, hc⟩ := h.at' (by have := (List.getElem?_eq_some_iff.1 hx).1; omega)
  exact ⟨b, o, hA, hc i x hx 0 _ rfl, hc i x hx 1 _ rfl, hc i x hx 2 _ rfl, hc i x hx 3 _ rfl, hc i x hx 4 _ rfl, hc i x hx 5 _ rfl, hc i x hx 6 _ rfl, hc i x hx 7 _ rfl⟩
theorem LkX.range {w : World} {b o : Nat} {x : Lk} (h : LkX w b o x) : w.rangeAt b o (lkC x).toList := fun j v hv => by
  have hj : j < 8 := (List.getElem?_eq_some_iff.1 hv).1
  match j, hj with
  | 0, _ => injection hv with hv; rw [← hv]; exact h.x0
  | 1, _ => injection hv with hv; rw [← hv]; exact h.x1
  | 2, _ => injection hv with hv; rw [← hv]; exact h.x2
  | 3, _ => injection hv with hv; rw [← hv]; exact h.x3
  | 4, _ => injection hv with hv; rw [← hv]; exact h.x4
  | 5, _ => injection hv with hv; rw [← hv]; exact h.x5
  | 6, _ => injection hv with hv; rw [← hv]; exact h.x6
  | 7, _ => injection hv with hv; rw [← hv]; exact h.x7
theorem size_lk : (Tryz.prog.info? 100).map (·.size) = some 8 := by kernel_rfl
theorem LkX.load {w : World} {b o : Nat} {x : Lk} (h : LkX w b o x) : (loadVar 100 ⟨b, o, none⟩).run Tryz.prog w = .ok (.agg (lkC x)) w :=
  run_loadVar_mid w b o _ (lkC x).toList _ h.range Tryz.underlying100 rfl (show _ = some 8 by kernel_rfl)
theorem LkX.gr {w w' : World} {b o : Nat} {x : Lk} (h : LkX w b o x) (k : Ch (fun _ => False) w w') : LkX w' b o x :=
  ⟨k.cell h.x0 (fun f => f), k.cell h.x1 (fun f => f), k.cell h.x2 (fun f => f), k.cell h.x3 (fun f => f), k.cell h.x4 (fun f => f), k.cell h.x5 (fun f => f), k.cell h.x6 (fun f => f), k.cell h.x7 (fun f => f)⟩
theorem one_lk (x : Lk) (h : SlV x.V) : (lkC x).all (·.oneCell') = true := by obtain ⟨A, n, C, e⟩ := h; unfold lkC; rw [e]; simp [Value.oneCell']
theorem zero_lk (w : World) : (zeroValue 100).run Tryz.prog w = .ok (.agg (lkC (lk0 0))) w := by kernel_rfl
theorem varLk (x : Lk) (hV : SlV x.V) (w : World) : ∃ wz wx H, VarR w wz wx H (lkC (lk0 0)) (lkC x) 100 :=
  ⟨_, w.alloc (.cells (lkC x) 100), w.heap.size, rfl, rfl, run_storeVar_new (P := Tryz.prog) w _ _ _ size_lk rfl (one_lk x hV), heap_alloc_new _ _, (Ch.refl _ w).alloc _ _⟩
theorem var_lkx {w : World} {H : Nat} {x : Lk} (h : w.heap[H]? = some (.cells (lkC x) 100 (0, 0))) : LkX w H 0 x :=
  ⟨blk_cell h, blk_cell h, blk_cell h, blk_cell h, blk_cell h, blk_cell h, blk_cell h, blk_cell h⟩
set_option maxHeartbeats 12800000 in
theorem rwhole_any (A : Option Addr) (C : Nat) (L : List Lk) (w : World) (h : RwV kdL elL w A C L) (hf : ∀ x ∈ L, 1 ≤ x.p.ofn ∧ x.p.ofn ≤ 64) (hl : L.length ≤ 1000) : Calls Tryz.prog 95 #[.slice A L.length C] w (Ans (.int .i64 (wholeR (lnP L) : Int)) w) := by
  obtain ⟨n, hn⟩ : ∃ n, n = L.length := ⟨_, rfl⟩
  have HN := Lib.hid hn
  rw [← hn] at hl ⊢
  have HV := Lib.hid h
  have HF := Lib.hid hf
  have hcap := h.cap
  rw [← hn] at hcap
  cases hL0 : L[0]? with
  | none =>
    have h0 : n = 0 := by
      rw [hn]
      rw [List.getElem?_eq_none_iff] at hL0
      omega
    have HE := Lib.hid (show wholeR (lnP L) = 0 by
      have : L = [] := List.length_eq_zero_iff.1 (by rw [← hn]; exact h0)
      rw [this]; rfl)
    subst h0
    clear h hf hL0 hn
    go_enter Tryz.func95, Tryz.ntmps95
    go_wp2
    go_ret
    exact ⟨ret_int (by rw [HE.out]; rfl), Ch.refl _ w⟩
  | some x0 =>
    have hn0 : 0 < n := by rw [hn]; exact (List.getElem?_eq_some_iff.1 hL0).1
    obtain ⟨b, o, rfl, hx⟩ := rwV_lk h hL0
    rw [Nat.zero_mul, Nat.add_zero] at hx
    have hm : x0 ∈ L := List.mem_of_getElem? hL0
    obtain ⟨f1, f2⟩ := hf x0 hm
    obtain ⟨f, hfe⟩ : ∃ f, f = x0.p.ofn.toNat := ⟨_, rfl⟩
    have e1 : x0.p.ofn = (f : Int) := by omega
    have hP0 : (lnP L)[0]? = some x0.p := by unfold lnP; rw [List.getElem?_map, hL0]; rfl
    have HW := Lib.hid (show wholeR (lnP L) = if f ≤ n ∧ ∀ i, i < f → okAt (lnP L) (f : Int) i = true then f else 0 by
      rw [whole_some hP0, ← hfe, e1, show (lnP L).length = n by unfold lnP; rw [List.length_map, hn]])
    have c5 : w.cell? ⟨b, o + 5, none⟩ = some (.int .i64 (f : Int)) := by rw [← e1]; exact hx.x5
    have z1 : (0 : Int) < (n : Int) := by omega
    have z2 : (0 : Int) ≤ 0 := by decide
    have t0 : ((n : Int) == 0) = false := by simp; omega
    have b1 : 1 ≤ f := by omega
    have b2 : f ≤ 64 := by omega
    clear hx hm f1 f2 hfe e1 hP0 h hf hL0 hn
    by_cases hfn : f ≤ n
    · have t1 : decide ((n : Int) < (f : Int)) = false := by simp; omega
      have HFN := Lib.hid hfn
      have fC : (f : Int) ≤ (C : Int) := by omega
      have f0 : (0 : Int) ≤ (f : Int) := by omega
      have fN : f ≤ C := by omega
      go_enter Tryz.func95, Tryz.ntmps95
      go_wp2
      go_loopw [2, 4, 5, 28] (fun _ _ _ i wr => ∃ k : Nat, k ≤ f ∧ i = .int .i64 k ∧ Hid (Ch (fun _ => False) w wr) ∧ Hid (∀ c, c < k → okAt (lnP L) (f : Int) c = true)) (fun _ _ _ i _ => f - (intOf i).toNat)
      case atStart => exact ⟨0, Nat.zero_le _, rfl, Lib.hid (Ch.refl _ w), Lib.hid fun c hc => absurd hc (Nat.not_lt_zero c)⟩
      case round =>
        obtain ⟨k, hk, rfl, HC, HB⟩ := hrel
        by_cases hlt : k < f
        · have i1 : (0 : Int) ≤ (k : Int) := Int.natCast_nonneg _
          have i2 : (k : Int) < (f : Int) := by omega
          obtain ⟨x, hxk⟩ : ∃ x, L[k]? = some x := ⟨L[k]'(by rw [← HN.out]; omega), List.getElem?_eq_getElem _⟩
          obtain ⟨b2', o2', hA2, hlx⟩ := rwV_lk (HV.out.gr HC.out) hxk
          injection hA2 with hA2
          injection hA2 with e2 e3
          subst e2
          subst e3
          have hPk : (lnP L)[k]? = some x.p := by unfold lnP; rw [List.getElem?_map, hxk]; rfl
          have HOK := Lib.hid (okAt_some (f := (f : Int)) hPk)
          have HXV := Lib.hid (show SlV x.V by obtain ⟨A, C, e, _⟩ := (HV.out.rows x (List.mem_of_getElem? hxk)).1; exact ⟨_, _, _, e⟩)
          obtain ⟨wz, wx, D, hvr⟩ := varLk x HXV.out wr
          have HLD := Lib.hid hlx.load
          have HVR := Lib.hid hvr
          have HC2 := Lib.hid (HC.out.trans hvr.ch)
          have y4 : wx.cell? ⟨D, 4, none⟩ = some (.int .i64 x.p.ix) := (var_lkx hvr.cx).x4
          have y5 : wx.cell? ⟨D, 5, none⟩ = some (.int .i64 x.p.ofn) := (var_lkx hvr.cx).x5
          have HLT := Lib.hid hlt
          clear hlx hvr hxk hPk hlt
          by_cases q1 : x.p.ix = (k : Int)
          · have u1 : (x.p.ix != (k : Int)) = false := by simpa using q1
            by_cases q2 : x.p.ofn = (f : Int)
            · have u2 : (x.p.ofn != (f : Int)) = false := by simpa using q2
              have HB2 := Lib.hid (show ∀ c, c < k + 1 → okAt (lnP L) (f : Int) c = true from fun c hc => by
                by_cases q : c < k
                · exact HB.out c q
                · obtain rfl : c = k := by omega
                  rw [HOK.out, decide_eq_true q1, decide_eq_true q2]; rfl)
              clear q1 q2
              go_wp2_with (first
                | ((with_reducible refine wpList_isOp (.load 100 (.tmp 31)) rfl ?_); refine wpList_loading _ rfl 100 (.tmp 31) rfl (.agg (lkC x)) ⟨b, o + k * 8, none⟩ rfl (by exact HLD.out) ?_)
                | ((with_reducible refine wpList_isOp (.alloc 100) rfl ?_); refine wpList_making _ wz rfl 100 rfl (lkC (lk0 0)) D (zero_lk _) (by exact HVR.out.sz) (by exact HVR.out.al) ?_)
                | ((with_reducible refine wpList_isOp (.store 100 (.tmp 5) (.tmp 32)) rfl ?_); refine wpList_storing _ wx rfl 100 (.tmp 5) (.tmp 32) rfl (.agg (lkC x)) ⟨D, 0, none⟩ rfl rfl (by exact HVR.out.st) ?_)
                | fail)
              go_roundw
              case rel => exact ⟨_, _, _, _, ⟨k + 1, HLT.out, by go_num, HB2⟩, rfl, rfl, rfl, rfl⟩
              case measure => have := HLT.out; simp [intOf]; omega
            · have u2 : (x.p.ofn != (f : Int)) = true := by simpa using q2
              have HE := Lib.hid (show wholeR (lnP L) = 0 by
                rw [HW.out, if_neg]
                rintro ⟨_, ha⟩
                have := ha k HLT.out
                rw [HOK.out, decide_eq_false q2, Bool.and_false] at this
                cases this)
              clear q1 q2
              go_wp2_with (first
                | ((with_reducible refine wpList_isOp (.load 100 (.tmp 31)) rfl ?_); refine wpList_loading _ rfl 100 (.tmp 31) rfl (.agg (lkC x)) ⟨b, o + k * 8, none⟩ rfl (by exact HLD.out) ?_)
                | ((with_reducible refine wpList_isOp (.alloc 100) rfl ?_); refine wpList_making _ wz rfl 100 rfl (lkC (lk0 0)) D (zero_lk _) (by exact HVR.out.sz) (by exact HVR.out.al) ?_)
                | ((with_reducible refine wpList_isOp (.store 100 (.tmp 5) (.tmp 32)) rfl ?_); refine wpList_storing _ wx rfl 100 (.tmp 5) (.tmp 32) rfl (.agg (lkC x)) ⟨D, 0, none⟩ rfl rfl (by exact HVR.out.st) ?_)
                | fail)
              go_ret
              exact ⟨ret_int (by rw [HE.out]; rfl), HC2.out⟩
          · have u1 : (x.p.ix != (k : Int)) = true := by simpa using q1
            have HE := Lib.hid (show wholeR (lnP L) = 0 by
              rw [HW.out, if_neg]
              rintro ⟨_, ha⟩
              have := ha k HLT.out
              rw [HOK.out, decide_eq_false q1, Bool.false_and] at this
              cases this)
            clear q1
            go_wp2_with (first
              | ((with_reducible refine wpList_isOp (.load 100 (.tmp 31)) rfl ?_); refine wpList_loading _ rfl 100 (.tmp 31) rfl (.agg (lkC x)) ⟨b, o + k * 8, none⟩ rfl (by exact HLD.out) ?_)
              | ((with_reducible refine wpList_isOp (.alloc 100) rfl ?_); refine wpList_making _ wz rfl 100 rfl (lkC (lk0 0)) D (zero_lk _) (by exact HVR.out.sz) (by exact HVR.out.al) ?_)
              | ((with_reducible refine wpList_isOp (.store 100 (.tmp 5) (.tmp 32)) rfl ?_); refine wpList_storing _ wx rfl 100 (.tmp 5) (.tmp 32) rfl (.agg (lkC x)) ⟨D, 0, none⟩ rfl rfl (by exact HVR.out.st) ?_)
              | fail)
            go_ret
            exact ⟨ret_int (by rw [HE.out]; rfl), HC2.out⟩
        · obtain rfl : k = f := by omega
          have HE := Lib.hid (show wholeR (lnP L) = k by rw [HW.out, if_pos ⟨HFN.out, HB.out⟩])
          clear hlt hk
          go_wp2
          go_ret
          exact ⟨ret_int (by rw [HE.out]), HC.out⟩
    · have t1 : decide ((n : Int) < (f : Int)) = true := by simp; omega
      have HE := Lib.hid (show wholeR (lnP L) = 0 by rw [HW.out, if_neg fun q => hfn q.1])
      go_enter Tryz.func95, Tryz.ntmps95
      go_wp2
      go_ret
      exact ⟨ret_int (by rw [HE.out]; rfl), Ch.refl _ w⟩
theorem joinP_app (L M : List Pn) : joinP (L ++ M) = joinP L ++ joinP M := List.flatMap_append
theorem joinP_snoc (L : List Pn) (p : Pn) : joinP (L ++ [p]) = joinP L ++ p.B := by simp [joinP]
theorem joinP_len {L : List Pn} (h : ∀ p ∈ L, p.B.length ≤ 200) : (joinP L).length ≤ 200 * L.length := by
  induction L with
  | nil => exact Nat.zero_le _
  | cons p L ih =>
    have h1 := h p (List.mem_cons_self ..)
    have h2 := ih fun q hq => h q (List.mem_cons_of_mem _ hq)
    show (p.B ++ joinP L).length ≤ _
    rw [List.length_append, List.length_cons]
    omega
theorem join_at {L : List Pn} {k : Nat} {p : Pn} (h : L[k]? = some p) {c : Nat} (hc : c < p.B.length) : Cod.litZ (joinP L) ((joinP (L.take k)).length + c) = Cod.litZ p.B c := by
  obtain ⟨hk, rfl⟩ := List.getElem?_eq_some_iff.1 h
  have e : L = L.take k ++ (L[k] :: L.drop (k + 1)) := by rw [← List.drop_eq_getElem_cons hk, List.take_append_drop]
  have e2 : joinP L = joinP (L.take k) ++ (L[k].B ++ joinP (L.drop (k + 1))) := by
    conv => lhs; rw [e]
    rw [joinP_app]; rfl
  rw [e2, flat_right, flat_left hc]
set_option maxHeartbeats 6400000 in
theorem rjoined_any (A : Option Addr) (C : Nat) (L : List Lk) (w : World) (h : RwV kdL elL w A C L) (hb : ∀ x ∈ L, x.p.B.length ≤ 200) (hl : L.length ≤ 1000) : Calls Tryz.prog 96 #[.slice A L.length C] w (NewL (joinP (lnP L)).length (Cod.litZ (joinP (lnP L))) w) := by
  obtain ⟨n, hn⟩ : ∃ n, n = L.length := ⟨_, rfl⟩
  have HN := Lib.hid hn
  rw [← hn] at hl ⊢
  have HV := Lib.hid h
  have hJ : (joinP (lnP L)).length ≤ 200000 := by
    have := joinP_len (L := lnP L) fun p hp => by
      obtain ⟨x, hx, rfl⟩ := List.mem_map.1 hp
      exact hb x hx
    unfold lnP at this ⊢
    rw [List.length_map, ← hn] at this
    omega
  have HJ := Lib.hid hJ
  have HBB := Lib.hid (show Bytes (joinP (lnP L)).length (Cod.litZ (joinP (lnP L))) from fun c hc => Cod.litZ_b (fun x hx => by
    obtain ⟨p, hp, hxp⟩ := List.mem_flatMap.1 hx
    obtain ⟨y, hy, rfl⟩ := List.mem_map.1 hp
    exact (HV.out.rows y hy).2 x hxp) c)
  have HS0 := Lib.hid (show OutSt w (Cod.litZ (joinP (lnP L))) (.slice none 0 0) 0 w from ⟨World.ownsRow_nil _ _ _ _, Ch.refl _ w⟩)
  clear h hb hn hJ
  go_enter Tryz.func96, Tryz.ntmps96
  go_wp2
  go_loopw [3, 5, 8] (fun v _ i wr => ∃ k : Nat, k ≤ n ∧ i = .int .i64 k ∧ Hid (OutSt w (Cod.litZ (joinP (lnP L))) v (joinP ((lnP L).take k)).length wr)) (fun v _ i _ => n - (intOf i).toNat)
  case atStart => exact ⟨0, Nat.zero_le _, rfl, HS0⟩
  case round =>
    obtain ⟨k, hk, rfl, HS⟩ := hrel
    by_cases hlt : k < n
    · have i1 : (0 : Int) ≤ (k : Int) := Int.natCast_nonneg _
      have i2 : (k : Int) < (n : Int) := by omega
      obtain ⟨x, hxk⟩ : ∃ x, L[k]? = some x := ⟨L[k]'(by rw [← HN.out]; omega), List.getElem?_eq_getElem _⟩
      obtain ⟨b, o, rfl, hlx⟩ := rwV_lk (HV.out.gr HS.out.ch) hxk
      have hPk : (lnP L)[k]? = some x.p := by unfold lnP; rw [List.getElem?_map, hxk]; rfl
      have hrow : RowV wr x.V x.p.B.length (Cod.litZ x.p.B) := ((HV.out.rows x (List.mem_of_getElem? hxk)).1.gr HS.out.ch)
      obtain ⟨xA, xC, hxV, _⟩ := id hrow
      obtain ⟨wz, wx, D, hvr⟩ := varLk x ⟨_, _, _, hxV⟩ wr
      have hrow2 := hrow.gr hvr.ch
      obtain ⟨v2, w3, hrun, hs3⟩ := (HS.out.gr hvr.ch).app hrow2 (fun c hc => join_at hPk hc) (by
        have e : joinP ((lnP L).take (k + 1)) = joinP ((lnP L).take k) ++ x.p.B := by
          rw [List.take_add_one, hPk]; exact joinP_snoc _ _
        have h1 : (joinP ((lnP L).take k)).length ≤ 200000 := by
          have h2 : joinP (lnP L) = joinP ((lnP L).take k) ++ joinP ((lnP L).drop k) := by
            rw [← joinP_app, List.take_append_drop]
          have := HJ.out
          rw [h2, List.length_append] at this
          omega
        have h3 := (hrow.bytes)
        have h4 : x.p.B.length ≤ 200000 := by
          have h2 : joinP (lnP L) = joinP ((lnP L).take (k + 1)) ++ joinP ((lnP L).drop (k + 1)) := by
            rw [← joinP_app, List.take_append_drop]
          have := HJ.out
          rw [h2, e, List.length_append, List.length_append] at this
          omega
        omega)
      have HS3 := Lib.hid (show OutSt w (Cod.litZ (joinP (lnP L))) v2 (joinP ((lnP L).take (k + 1))).length w3 by
        have e : (joinP ((lnP L).take (k + 1))).length = (joinP ((lnP L).take k)).length + x.p.B.length := by
          rw [List.take_add_one, hPk, show (some x.p).toList = [x.p] from rfl, joinP_snoc, List.length_append]
        rw [e]; exact hs3)
      have HLD := Lib.hid hlx.load
      have HVR := Lib.hid hvr
      have y6 : wx.cell? ⟨D, 6, none⟩ = some (.slice xA x.p.B.length xC) := by
        have := (var_lkx hvr.cx).x6
        rw [hxV] at this
        exact this
      rw [hxV] at hrun
      have HRUN := Lib.hid hrun
      have HLT := Lib.hid hlt
      clear hlx hvr hxk hPk hlt hrow hrow2 hxV hrun hs3
      go_wp2_with (first
        | ((with_reducible refine wpList_isOp (.load 100 (.tmp 10)) rfl ?_); refine wpList_loading _ rfl 100 (.tmp 10) rfl (.agg (lkC x)) ⟨b, o + k * 8, none⟩ rfl (by exact HLD.out) ?_)
        | ((with_reducible refine wpList_isOp (.alloc 100) rfl ?_); refine wpList_making _ wz rfl 100 rfl (lkC (lk0 0)) D (zero_lk _) (by exact HVR.out.sz) (by exact HVR.out.al) ?_)
        | ((with_reducible refine wpList_isOp (.store 100 (.tmp 5) (.tmp 11)) rfl ?_); refine wpList_storing _ wx rfl 100 (.tmp 5) (.tmp 11) rfl (.agg (lkC x)) ⟨D, 0, none⟩ rfl rfl (by exact HVR.out.st) ?_)
        | ((with_reducible refine wpList_isOp (.call { callee := .builtin .append, args := #[.tmp 12, .tmp 15], argTypes := #[ 24, 24] }) rfl ?_); refine wpList_appK_of 24 _ rfl (.tmp 12) (.tmp 15) rfl rfl (_) (.slice xA x.p.B.length xC) (v2) w3 rfl rfl (by exact HRUN.out) ?_)
        | fail)
      go_roundw
      case rel => exact ⟨k + 1, HLT.out, by go_num, HS3⟩
      case measure => have := HLT.out; simp [intOf]; omega
    · obtain rfl : k = n := by omega
      have e : (lnP L).take k = lnP L := List.take_of_length_le (by unfold lnP; rw [List.length_map, HN.out]; exact Nat.le_refl _)
      have HF := Lib.hid HS.out
      rw [e] at HF
      clear hlt hk e
      go_wp2
      go_ret
      exact ⟨_, rfl, HF.out.own, HF.out.ch⟩
end Go.Proofs.YteleknojohnlbaaGreat
