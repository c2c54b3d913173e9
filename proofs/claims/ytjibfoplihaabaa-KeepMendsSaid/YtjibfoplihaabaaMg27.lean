/-
  The document's own device (quartermasterref06), walked: a write behind the others; settle.
-/
import Derived.Test.YtjibfoplihaabaaMg26
namespace Go.Proofs.Ytjibfoplihaabaa
open Go.RowKit
set_option linter.unusedVariables false
set_option maxRecDepth 100000

/-! ### a write behind the others -/
theorem info_wait : (Try.prog.info? 102).map (fun i => (i.zero, i.size, i.bytes)) = some (some (.agg #[.int .i64 0, .slice none 0 0]), 2, 32) := by kernel_rfl
theorem under_waits : Try.prog.underlying 64 = some (.slice 102) := by kernel_rfl
theorem own_low2 {w : World} {base base2 n sz : Nat} {e : TypeId} {v : Value} {xs : List Value} (h : w.ownsRow base e sz v n xs) (hb : base2 ≤ base) : w.ownsRow base2 e sz v n xs := by
  refine ⟨h.1, ?_⟩
  rcases h.2 with hn | ⟨g, cap, cur, rfl, hb2, rest⟩
  · exact Or.inl hn
  · exact Or.inr ⟨g, cap, cur, rfl, Nat.le_trans hb hb2, rest⟩
theorem app_wl {base : Nat} {w : World} {v : Value} {X : List (Wt × Value)} {y : Wt × Value} {ad : Addr} {C : Nat} (ho : w.ownsRow base 102 2 v X.length (wlL X)) (hb : base ≤ w.heap.size) (hx : ∀ j u, (wlC y)[j]? = some u → w.cell? (ad.add j) = some u) (h1 : y.2.oneCell' = true) (hl : X.length ≤ 1048576) :
    ∃ g cap w', (Builtin.append_ #[ 64, 64] 64 #[v, .slice (some ad) 1 C]).run Try.prog w = .ok (.slice (some ⟨g, 0, none⟩) (X.length + 1) cap) w' ∧ w'.ownsRow base 102 2 (.slice (some ⟨g, 0, none⟩) (X.length + 1) cap) (X ++ [y]).length (wlL (X ++ [y])) ∧ w.grownBy w' v.ownBlock ∧ (v.ownBlock = some g ∨ g = w.heap.size) := by
  obtain ⟨i0, hi, hz0, hz1, hz2⟩ := info_parts info_wait
  obtain ⟨g, cap, w', hr, h2, h3, h4, _⟩ := run_append_lies (P := Try.prog) w 64 64 base 102 i0 _ 2 32 under_waits hi hz0 hz1 hz2 rfl (by omega) v X.length (wlL X) ho ad 1 C (wlC y) rfl hx (fun u hu => by
    unfold wlC at hu
    rcases List.mem_cons.1 hu with rfl | hu
    · rfl
    · rw [List.mem_singleton.1 hu]; exact h1) (by omega) (by unfold maxLen; omega) (by omega) hb _ rfl
  refine ⟨g, cap, w', hr, ?_, h3, h4⟩
  rw [wlL_snoc, List.length_append, List.length_singleton]
  exact h2
theorem slice_wl (w : World) (a b : Value) : (Instr.buildSlice 64 1 #[(0, .agg #[a, b])]).run Try.prog w = .ok (.slice (some ⟨w.heap.size, 0, none⟩) 1 1) (w.alloc (.cells #[a, b] 102)) := by
  obtain ⟨i0, hi, hz0, hz1, hz2⟩ := info_parts info_wait
  refine run_buildSlice (P := Try.prog) w _ _ 1 _ _ i0 _ under_waits hi hz0 (by rw [hz1]; omega) (by rw [hz1]; omega) ?_
  rw [hz1]
  exact fill_one _ _ 2 rfl (by simp) (by omega)
theorem wpList_appL {ops : Array Oper} {rest : List Oper} {o : Oper} {a : Act} {Q : Exit → Act → World → Prop} (w : World) (hgd : o.guard = none) (s x : Operand)
    (ho : o.op = .call { callee := .builtin .append, args := #[s, x], argTypes := #[ 64, 64] }) (hty : o.type = 64) (sv xv v' : Value) (w' : World) (hs : a.eval s = sv) (hx : a.eval x = xv)
    (hrun : (Builtin.append_ #[ 64, 64] 64 #[sv, xv]).run Try.prog w = .ok v' w') (h : wpList Try.prog ops Q rest (a.put o.dst v') w') : wpList Try.prog ops Q (o :: rest) a w := by
  refine wpList_plain hgd fun _ hK => ?_
  unfold Oper.wp execOp
  simp only [ho, hty, resolve, invoke, builtin, Sem.run_bind, Sem.run_pure, Result.andThen_ok, List.map_toArray, List.map_cons, List.map_nil, hs, hx, hrun]
  exact hK _ _ h
theorem BRow.one {w : World} {v : Value} {z : Nat → Nat} (h : BRow w v z) : v.oneCell' = true := by obtain ⟨b, o, C, rfl⟩ := h.form; rfl

/-! ### settle -/
def offX (X : List (Wt × Value)) (a : Nat) : List (Wt × Value) := X.filter (fun y => !decide (y.1.pl = a))
theorem offX_snoc (X : List (Wt × Value)) (y : Wt × Value) (a : Nat) : offX (X ++ [y]) a = if y.1.pl = a then offX X a else offX X a ++ [y] := by
  unfold offX
  rw [List.filter_append]
  by_cases h : y.1.pl = a
  · rw [if_pos h]; simp [h]
  · rw [if_neg h]; simp [h]
theorem offX_len (X : List (Wt × Value)) (a : Nat) : (offX X a).length ≤ X.length := List.length_filter_le _ _
theorem offX_fst (X : List (Wt × Value)) (a : Nat) : (offX X a).map Prod.fst = offS (X.map Prod.fst) a := by
  unfold offX offS
  rw [List.filter_map]
  rfl
theorem takeX {X : List (Wt × Value)} {k : Nat} {y : Wt × Value} (h : X[k]? = some y) : X.take (k + 1) = X.take k ++ [y] := by rw [List.take_add_one, h]; rfl
/-- Between two rounds. -/
structure RSet (base : Nat) (F : Nat → Prop) (w wr : World) (q : Rh) (d : Dev) (a : Nat) (Y : List (Wt × Value)) (v : Value) : Prop where
  dev : ∃ s, RefIs base F wr { q with s := s } (finAll d (ofS (Y.map Prod.fst) a))
  own : wr.ownsRow w.heap.size 102 2 v (offX Y a).length (wlL (offX Y a))
  ch : Ch F w wr
section
variable {base : Nat} {F : Nat → Prop} {w wr : World} {q : Rh} {d : Dev} {a : Nat} {Y : List (Wt × Value)} {v : Value} {y : Wt × Value}
theorem RSet.far (h : RSet base F w wr q d a Y v) (h0 : ∀ i, F i → i < w.heap.size) {i : Nat} (hi : F i) : ¬ v.ownBlock = some i := fun e => by
  have := (own_at h.own e).1
  have := h0 i hi
  omega
theorem RSet.fin (h : RSet base F w wr q d a Y v) (h0 : ∀ i, F i → i < w.heap.size) (hy : y ∈ q.X) (hp : y.1.pl = a) : Calls Try.prog 53 #[.pointer (some ⟨q.B, 0, none⟩), .agg #[.int .i64 (y.1.pl : Int), y.2]] wr fun e w' => e = .returned (.tuple #[]) ∧ RSet base F w w' q d a (Y ++ [y]) v := by
  obtain ⟨s, h1⟩ := h.dev
  refine (rdoes_any base F _ _ y.1 y.2 wr h1 (h1.Xpl hy) (h1.xrow y hy) (h1.fx y hy)).mono ?_
  rintro e w' ⟨rfl, h2, h3⟩
  refine ⟨rfl, ⟨up s y.1.pl y.2, ?_⟩, ?_, h.ch.trans h3⟩
  · rw [List.map_append, show List.map Prod.fst [y] = [y.1] from rfl, ofS_snoc, if_pos hp, finAll_snoc]
    exact h2
  · rw [offX_snoc, if_pos hp]
    exact own_of h.own (fun i hi => h3.block i (blk_lt (own_at h.own hi).2.choose_spec) (fun f => h.far h0 f hi))
theorem RSet.app (h : RSet base F w wr q d a Y v) (h0 : ∀ i, F i → i < w.heap.size) (h1 : y.2.oneCell' = true) (hp : ¬ y.1.pl = a) (hl : Y.length ≤ 1048575) :
    ∃ g cap w2, (Builtin.append_ #[ 64, 64] 64 #[v, .slice (some ⟨wr.heap.size, 0, none⟩) 1 1]).run Try.prog (wr.alloc (.cells #[.int .i64 (y.1.pl : Int), y.2] 102)) = .ok (.slice (some ⟨g, 0, none⟩) ((offX Y a).length + 1) cap) w2 ∧ RSet base F w w2 q d a (Y ++ [y]) (.slice (some ⟨g, 0, none⟩) ((offX Y a).length + 1) cap) := by
  have k1 : Ch (fun _ => False) wr (wr.alloc (.cells #[.int .i64 (y.1.pl : Int), y.2] 102)) := (Ch.refl _ wr).alloc _ _
  have ho : (wr.alloc (.cells #[.int .i64 (y.1.pl : Int), y.2] 102)).ownsRow w.heap.size 102 2 v (offX Y a).length (wlL (offX Y a)) := own_of h.own (fun i hi => k1.block i (blk_lt (own_at h.own hi).2.choose_spec) (fun f => f))
  have hsz : w.heap.size ≤ (wr.alloc (.cells #[.int .i64 (y.1.pl : Int), y.2] 102)).heap.size := Nat.le_trans h.ch.size k1.size
  obtain ⟨g, cap, w2, hr, h2, h3, h4⟩ := app_wl (y := y) (ad := ⟨wr.heap.size, 0, none⟩) (C := 1) ho hsz (fun j u hu => by rw [add_pl, Nat.zero_add, alloc_cell]; show ([Value.int .i64 (y.1.pl : Int), y.2].toArray)[j]? = some u; rw [List.getElem?_toArray]; exact hu) h1 (by have := offX_len Y a; omega)
  have k2 : Ch (fun i => v.ownBlock = some i) (wr.alloc (.cells #[.int .i64 (y.1.pl : Int), y.2] 102)) w2 := (Ch.refl _ _).grown h3 (fun i hi => Or.inl hi)
  have k3 : Ch (fun i => v.ownBlock = some i) wr w2 := (k1.mono fun _ _ f => f.elim).trans k2
  obtain ⟨s, h5⟩ := h.dev
  refine ⟨g, cap, w2, hr, ⟨s, ?_⟩, ?_, ?_⟩
  · rw [List.map_append, show List.map Prod.fst [y] = [y.1] from rfl, ofS_snoc, if_neg hp]
    exact h5.ch k3 (fun i hi => h.far h0 hi)
  · rw [offX_snoc, if_neg hp]
    exact h2
  · refine ⟨k3.os.trans h.ch.os, k3.tape.trans h.ch.tape, k3.output.trans h.ch.output, Nat.le_trans h.ch.size k3.size, fun i hi hf => ?_⟩
    rw [k3.block i (Nat.lt_of_lt_of_le hi h.ch.size) (fun e => by have := (own_at h.own e).1; omega)]
    exact h.ch.block i hi hf
theorem RSet.done (h : RSet base F w wr q d a q.X v) (h0 : ∀ i, F i → i < w.heap.size) (hb : base ≤ w.heap.size) (hX : q.X.map Prod.fst = d.W) : RPost base F q.B (settleD d a) (.tuple #[]) w (.returned (.tuple #[])) (wr.setCell ⟨q.B, 2, none⟩ v) := by
  obtain ⟨s, h1⟩ := h.dev
  have hg := h1.grow hb h.ch.size
  have h2 := hg.setW (Ch.refl _ wr) v (offX q.X a) (own_low2 h.own hb) (fun i hi => by
    obtain ⟨hlo, c, hc⟩ := own_at h.own hi
    exact Or.inr ⟨hlo, blk_lt hc⟩) (fun y hy => by
    have hy2 : y ∈ q.X := (List.mem_filter.1 hy).1
    exact ⟨h1.xrow y hy2, fun i hi => Or.inl (h1.fx y hy2 i hi), h1.Xpl hy2⟩)
  have e : ({ finAll d (ofS (q.X.map Prod.fst) a) with W := (offX q.X a).map Prod.fst } : Dev) = settleD d a := by
    unfold settleD
    rw [offX_fst, hX]
  rw [e] at h2
  refine ⟨rfl, { q with s := s, V := v, X := offX q.X a }, rfl, h2.wide (fun i hi => hi.elim Or.inl (fun q => Or.inr ⟨q.1, by simpa [World.setCell] using q.2⟩)) (fun i hi => ?_), h.ch.trans (h1.chB 2 v)⟩
  rcases hi with q | q
  · exact ⟨h1.low i q, by have := h1.hi i q; simpa [World.setCell] using this⟩
  · exact ⟨Nat.le_trans hb q.1, q.2⟩
end
set_option maxHeartbeats 800000 in
set_option maxRecDepth 100000 in
theorem rsettle_any (base : Nat) (F : Nat → Prop) (q : Rh) (d : Dev) (a : Nat) (w : World) (h : RefIs base F w q d) (hW : d.W.length ≤ 1048575) :
    Calls Try.prog 41 #[.pointer (some ⟨q.B, 0, none⟩), .int .i64 (a : Int)] w (RPost base F q.B (settleD d a) (.tuple #[]) w) := by
  obtain ⟨A, C, hv⟩ := h.vform
  have c2 : w.cell? ⟨q.B, 2, none⟩ = some q.V := h.cellB 2
  obtain ⟨L, hL⟩ : ∃ L, L = q.X.length := ⟨_, rfl⟩
  have hLW : L ≤ 1048575 := by rw [hL, h.XL]; exact hW
  rw [← hL] at hv
  rw [hv] at c2
  have HLE := Lib.hid h.le
  have HHI := Lib.hid h.hi
  have HV := Lib.hid hv
  have HL := Lib.hid hL
  have HXW := Lib.hid h.XW
  have HS0 := Lib.hid (show RSet base F w w q d a (q.X.take 0) (.slice none 0 0) from ⟨⟨_, h⟩, World.ownsRow_nil _ _ _ _, Ch.refl _ _⟩)
  obtain ⟨B, G, L', P, Q, cG, cL, cP, cQ, V, s, X, m, lf⟩ := q
  clear h hv hL hW
  go_enter Try.func41, Try.ntmps41
  go_wp2_with fail
  go_loopw [4, 5] (fun v i wr => ∃ k : Nat, k ≤ L ∧ i = .int .i64 k ∧ Hid (RSet base F w wr ⟨B, G, L', P, Q, cG, cL, cP, cQ, V, s, X, m, lf⟩ d a (X.take k) v)) (fun _ i _ => L - (intOf i).toNat)
  case atStart => exact ⟨0, Nat.zero_le _, rfl, HS0⟩
  case round =>
    obtain ⟨k, hk, rfl, HK⟩ := hrel
    obtain ⟨s2, h2⟩ := HK.out.dev
    have e2 : wr.cell? ⟨B, 2, none⟩ = some (.slice A L C) := by rw [← HV.out]; exact h2.cellB 2
    by_cases hlt : k < L
    · obtain ⟨y, hy⟩ : ∃ y, X[k]? = some y := ⟨_, List.getElem?_eq_getElem (by rw [← HL.out]; exact hlt)⟩
      obtain ⟨g, cap, hv, hld⟩ := h2.ldW hy
      obtain ⟨g', cap', hv', x0, x1⟩ := h2.wt (k := k) (y := y) hy
      have hv2 := HV.out.symm.trans hv
      injection hv2 with q1 q2 q3
      subst q1
      subst q3
      have hv3 := HV.out.symm.trans hv'
      injection hv3 with q1 q4 q5
      injection q1 with q1
      injection q1 with q1 _
      subst q1
      have HLD := Lib.hid hld
      have hym : y ∈ X := List.mem_of_getElem? hy
      have i1 : (0 : Int) ≤ (k : Int) := Int.natCast_nonneg _
      have i2 : (k : Int) < (L : Int) := by omega
      have hone := (h2.xrow y hym).one
      by_cases hq : y.1.pl = a
      · have t1 : ((y.1.pl : Int) == (a : Int)) = true := by simp [hq]
        have HF := Lib.hid (HK.out.fin HHI.out hym hq)
        rw [← takeX hy] at HF
        clear hv q2 hv' q4 q5 hld hy h2 hq hone hym x1
        go_wp2_with (first
          | ((with_reducible refine wpList_isOp (.load 102 (.tmp 31)) rfl ?_); refine wpList_loading _ rfl 102 (.tmp 31) rfl (.agg #[.int .i64 (y.1.pl : Int), y.2]) ⟨g, k * 2, none⟩ (by simp [Act.eval]) (by exact HLD.out) ?_)
          | (go_at_call 53; refine HF.out.mono ?_; rintro e w2 ⟨rfl, h2⟩))
        have HK2 := Lib.hid h2
        clear h2
        go_wp2
        go_roundw
        case rel => exact ⟨k + 1, by omega, by go_num, HK2⟩
        case measure => simp [intOf]; omega
      · have t1 : ((y.1.pl : Int) == (a : Int)) = false := by simp; omega
        obtain ⟨g2, cap2, w2, hr2, hs2⟩ := HK.out.app HHI.out hone hq (by rw [List.length_take]; omega)
        rw [← takeX hy] at hs2
        have HSL := Lib.hid (slice_wl wr (.int .i64 (y.1.pl : Int)) y.2)
        have HRUN := Lib.hid hr2
        obtain ⟨ws, hws⟩ : ∃ ws, ws = wr.alloc (.cells #[.int .i64 (y.1.pl : Int), y.2] 102) := ⟨_, rfl⟩
        obtain ⟨K, hK⟩ : ∃ K, K = wr.heap.size := ⟨_, rfl⟩
        obtain ⟨N, hN⟩ : ∃ N, N = (offX (X.take k) a).length + 1 := ⟨_, rfl⟩
        rw [← hws, ← hK, ← hN] at HRUN
        rw [← hws, ← hK] at HSL
        rw [← hN] at hs2
        have HS2 := Lib.hid hs2
        clear hv q2 hv' q4 q5 hld hy h2 hq hone hym hr2 hs2 hws hK hN x1
        go_wp2_with (first
          | ((with_reducible refine wpList_isOp (.load 102 (.tmp 40)) rfl ?_); refine wpList_loading _ rfl 102 (.tmp 40) rfl (.agg #[.int .i64 (y.1.pl : Int), y.2]) ⟨g, k * 2, none⟩ (by simp [Act.eval]) (by exact HLD.out) ?_)
          | ((with_reducible refine wpList_isOp (.buildSlice 64 1 #[(0, .tmp 41)]) rfl ?_); refine wpList_slicing1 _ ws rfl 64 0 1 (.tmp 41) rfl (.agg #[.int .i64 (y.1.pl : Int), y.2]) (.slice (some ⟨K, 0, none⟩) 1 1) rfl (by exact HSL.out) ?_)
          | ((with_reducible refine wpList_isOp (.call { callee := .builtin .append, args := #[.tmp 34, .tmp 42], argTypes := #[ 64, 64] }) rfl ?_); refine wpList_appL _ rfl (.tmp 34) (.tmp 42) rfl rfl u4 (.slice (some ⟨K, 0, none⟩) 1 1) (.slice (some ⟨g2, 0, none⟩) N cap2) w2 rfl rfl (by exact HRUN.out) ?_))
        go_roundw
        case rel => exact ⟨k + 1, by omega, by go_num, HS2⟩
        case measure => simp [intOf]; omega
    · obtain rfl : k = L := by omega
      have f2 := h2.frB 2
      rw [HL.out, List.take_length] at HK
      have HP := Lib.hid (HK.out.done HHI.out HLE.out HXW.out)
      obtain ⟨A2, n2, C2, e4⟩ : ∃ A2 n2 C2, u4 = .slice A2 n2 C2 := by
        rcases HK.out.own.2 with ⟨e, _⟩ | ⟨_, _, _, e, _⟩
        · exact ⟨_, _, _, e⟩
        · exact ⟨_, _, _, e⟩
      subst e4
      clear h2
      go_wp2
      go_end0
      exact HP.out
#print axioms rsettle_any
end Go.Proofs.Ytjibfoplihaabaa
