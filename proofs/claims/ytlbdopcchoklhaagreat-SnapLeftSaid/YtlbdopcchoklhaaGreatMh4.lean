/-
  The functions that tell a group's sectors, geo.Bears and Members, walked. The program's snap: within and First, walked.
-/
import Derived.Test.YtlbdopcchoklhaaGreatMh3
import Derived.Deep.RegionHeld3
namespace Go.Proofs.YtlbdopcchoklhaaGreat
open Go.RowKit
set_option linter.unusedVariables false
set_option maxRecDepth 100000

/-! ### a sector, told -/
theorem tell_copies (n : Gn) (p : Nat) (w : World) : Calls Tryz.prog 98 #[.int .i64 (p : Int)] w (Ans (.int .i64 (n.sec 0 p : Int)) w) := by
  have HE := Lib.hid (show n.sec 0 p = p from rfl)
  go_enter Tryz.func98, Tryz.ntmps98
  go_wp2
  go_ret
  exact ⟨ret_int (by rw [HE.out]), Ch.refl _ w⟩
set_option maxHeartbeats 400000 in
theorem tell_slot (n : Gn) (hn : n.Ok) (j p B D : Nat) (h0 : ¬ j = 0) (h1 : j < n.fg) (hp : p < 2) (w : World) (hx : GeX w B n.ge) (hd : w.cell? ⟨D, 0, none⟩ = some (.int .i64 ((j : Int) - 1))) :
    Calls Tryz.prog 99 #[.int .i64 (p : Int), .pointer (some ⟨B, 0, none⟩), .pointer (some ⟨D, 0, none⟩)] w (Ans (.int .i64 (n.sec j p : Int)) w) := by
  have hs : n.sec j p = 4 + p * n.W + (j - 1) := by unfold Gn.sec; rw [if_neg h0, if_pos h1]
  have x0 : w.cell? ⟨B, 0, none⟩ = some (.int .i64 (n.W : Int)) := hx.x0
  have b1 := hn.w2
  have b2 : j ≤ 512 := by unfold Gn.fg at h1; omega
  have HS := Lib.hid hs
  obtain ⟨W, hW⟩ : ∃ W, W = n.W := ⟨_, rfl⟩
  rw [← hW] at x0 b1
  have HW := Lib.hid hW
  have HJ := Lib.hid (show 1 ≤ j by omega)
  obtain ⟨x, hxx⟩ : ∃ x : Int, x = (j : Int) - 1 := ⟨_, rfl⟩
  have HXX := Lib.hid hxx
  have b3 : x ≤ 512 := by omega
  have b4 : 0 ≤ x := by omega
  rw [← hxx] at hd
  clear hs hn hW hx h1 h0 hxx b2
  have hcase : p = 0 ∨ p = 1 := by omega
  rcases hcase with rfl | rfl
  · go_enter Tryz.func99, Tryz.ntmps99
    go_wp2
    go_ret
    exact ⟨ret_int (by have := HXX.out; have := HJ.out; rw [HS.out, ← HW.out]; omega), Ch.refl _ w⟩
  · go_enter Tryz.func99, Tryz.ntmps99
    go_wp2
    go_ret
    exact ⟨ret_int (by have := HXX.out; have := HJ.out; rw [HS.out, ← HW.out]; omega), Ch.refl _ w⟩
set_option maxHeartbeats 1600000 in
theorem tell_stripe (n : Gn) (hn : n.Ok) (j p H D : Nat) (hj : j < n.grp) (h0 : ¬ j = 0) (h1 : ¬ j < n.fg) (hp : p < n.q) (w : World) (hx : GeX w H n.ge) (hd : w.cell? ⟨D, 0, none⟩ = some (.int .i64 ((j : Int) - (n.fg : Int)))) :
    Calls Tryz.prog 100 #[.int .i64 (p : Int), .pointer (some ⟨H, 0, none⟩), .pointer (some ⟨D, 0, none⟩)] w (Ans (.int .i64 (n.sec j p : Int)) w) := by
  have HS := Lib.hid (show IntKind.i64.wrap (IntKind.i64.wrap ((n.fs : Int) + IntKind.i64.wrap (((j : Int) - (n.fg : Int)) * (n.q : Int))) + (p : Int)) = (n.sec j p : Int) by
    have hs : n.sec j p = n.fs + (j - n.fg) * n.q + p := by unfold Gn.sec; rw [if_neg h0, if_neg h1]
    have hl := Gn.stripe_lt (n := n) (s := j - n.fg) (p := p) (by unfold Gn.grp at hj; omega) hp
    have b1 := hn.t2
    have b2 := hn.fs2
    have e1 : (j : Int) - (n.fg : Int) = ((j - n.fg : Nat) : Int) := by omega
    have e2 : ((j - n.fg : Nat) : Int) * (n.q : Int) = (((j - n.fg) * n.q : Nat) : Int) := by rw [Int.natCast_mul]
    have b3 := hn.q2
    rw [hs, e1, e2, wrapI_in (x := (((j - n.fg) * n.q : Nat) : Int)) (by omega) (by omega), wrapI_in (x := (n.fs : Int) + (((j - n.fg) * n.q : Nat) : Int)) (by omega) (by omega), wrapI_in (by omega) (by omega)]
    omega)
  have HK := Lib.hid hn
  have HX := Lib.hid hx
  have HD := Lib.hid hd
  obtain ⟨x0, x1, x2, x3⟩ := hx
  obtain ⟨x, hxx⟩ : ∃ x : Int, x = (j : Int) - (n.fg : Int) := ⟨_, rfl⟩
  rw [← hxx] at hd HD HS
  clear hn hj h0 h1 hp hxx
  go_enter Tryz.func100, Tryz.ntmps100
  go_wp2
  go_region_held3 (fun w' => (w'.cell? ⟨H, 0, none⟩ = some (.int .i64 n.ge.wal) ∧ w'.cell? ⟨H, 1, none⟩ = some (.int .i64 n.ge.st) ∧ w'.cell? ⟨H, 2, none⟩ = some (.int .i64 n.ge.k) ∧ w'.cell? ⟨H, 3, none⟩ = some (.int .i64 n.ge.m)) ∧ w'.cell? ⟨D, 0, none⟩ = some (.int .i64 x)) (first | go_keep | exact ⟨ka, kc⟩ | exact ⟨kb, kd⟩)
    (first
      | (go_at_call 96; refine (firstShare_any n HK.out _).mono ?_; rintro e w2 ⟨rfl, hc2⟩; have hcx := (Ch.refl (fun _ => False) w).drew.trans hc2; have hx2 := HX.out.gr hcx; have ka := hx2.all; have kc := hcx.cell HD.out (fun f => f))
      | (go_at_call 97; refine (shares_any n HK.out _).mono ?_; rintro e w3 ⟨rfl, hc3⟩; have hx3 := hx2.gr hc3; have kb := hx3.all; have kd := hc3.cell kc (fun f => f)))
  go_wp2
  go_ret
  exact ⟨ret_int HS.out, hcx.trans hc3⟩
/-! ### a group, of whatever kind -/
def TellF (F : Value) (n : Gn) (j : Nat) (w : World) : Prop :=
  (j = 0 ∧ F = .func (.func 98) #[] #[]) ∨
  (∃ B D, (¬ j = 0 ∧ j < n.fg) ∧ F = .func (.func 99) #[] #[.pointer (some ⟨B, 0, none⟩), .pointer (some ⟨D, 0, none⟩)] ∧ GeX w B n.ge ∧ w.cell? ⟨D, 0, none⟩ = some (.int .i64 ((j : Int) - 1))) ∨
  (∃ B D, (¬ j = 0 ∧ ¬ j < n.fg) ∧ F = .func (.func 100) #[] #[.pointer (some ⟨B, 0, none⟩), .pointer (some ⟨D, 0, none⟩)] ∧ GeX w B n.ge ∧ w.cell? ⟨D, 0, none⟩ = some (.int .i64 ((j : Int) - (n.fg : Int))))
theorem TellF.one {F : Value} {n : Gn} {j : Nat} {w : World} (h : TellF F n j w) : F.oneCell' = true := by
  rcases h with ⟨_, rfl⟩ | ⟨B, D, _, rfl, _⟩ | ⟨B, D, _, rfl, _⟩ <;> rfl
theorem TellF.off {S : Nat → Prop} {F : Value} {n : Gn} {j : Nat} {w w' : World} (h : TellF F n j w) (k : Ch S w w') (hS : ∀ i, i < w.heap.size → ¬ S i) : TellF F n j w' := by
  rcases h with h | ⟨B, D, h1, h2, h3, h4⟩ | ⟨B, D, h1, h2, h3, h4⟩
  · exact Or.inl h
  · exact Or.inr (Or.inl ⟨B, D, h1, h2, h3.off k (hS _ (World.block_lt_of_cell? _ _ h3.x0)), k.cell h4 (hS _ (World.block_lt_of_cell? _ _ h4))⟩)
  · exact Or.inr (Or.inr ⟨B, D, h1, h2, h3.off k (hS _ (World.block_lt_of_cell? _ _ h3.x0)), k.cell h4 (hS _ (World.block_lt_of_cell? _ _ h4))⟩)
def GrPost (n : Gn) (j : Nat) (w : World) (e : Ending) (w' : World) : Prop := ∃ F, e = .returned (.agg (grC (n.cnt j : Int) (n.brs j : Int) F)) ∧ TellF F n j w' ∧ Ch (fun _ => False) w w'
theorem groupOf_any (n : Gn) (hn : n.Ok) (j : Nat) (hj : j < n.grp) (w : World) : Calls Tryz.prog 58 #[.agg (geC n.ge), .int .i64 (j : Int)] w (GrPost n j w) := by
  by_cases h0 : j = 0
  · subst h0
    refine (groupOf_copies n hn w).mono ?_
    rintro e w' ⟨rfl, hc⟩
    exact ⟨_, rfl, Or.inl ⟨rfl, rfl⟩, hc⟩
  · by_cases h1 : j < n.fg
    · have e1 : n.cnt j = 2 := by unfold Gn.cnt; rw [if_neg h0, if_pos h1]
      have e2 : n.brs j = 1 := by unfold Gn.brs; rw [if_neg h0, if_pos h1]
      refine (groupOf_slot n hn j hj h0 h1 w).mono ?_
      rintro e w' ⟨B, D, rfl, hx, hd, hc⟩
      refine ⟨_, ?_, Or.inr (Or.inl ⟨B, D, ⟨h0, h1⟩, rfl, hx, hd⟩), hc⟩
      rw [e1, e2]
      rfl
    · have e1 : n.cnt j = n.q := by unfold Gn.cnt; rw [if_neg h0, if_neg h1]
      have e2 : n.brs j = n.M := by unfold Gn.brs; rw [if_neg h0, if_neg h1]
      refine (groupOf_stripe n hn j hj h1 w).mono ?_
      rintro e w' ⟨B, D, rfl, hx, hd, hc⟩
      refine ⟨_, ?_, Or.inr (Or.inr ⟨B, D, ⟨h0, h1⟩, rfl, hx, hd⟩), hc⟩
      rw [e1, e2]
/-! ### Bears -/
/-! ### Members -/
def MemPost (g : Ge) (i : Int) (w : World) (e : Ending) (w' : World) : Prop :=
  ∃ G, e = .returned (.slice (some ⟨G, 0, none⟩) (cntG g i) (cntG g i)) ∧ w'.ownsRow w.heap.size /-t-/3 1 (.slice (some ⟨G, 0, none⟩) (cntG g i) (cntG g i)) (cntG g i) (numL (cntG g i) (secG g i)) ∧ Ch (fun _ => False) w w'
/-- A group's members, of which k have been told. -/
structure MemSt (w6 wr : World) (G c k : Nat) (f : Nat → Int) : Prop where
  row : wr.rowIs G /-t-/3 c (fun x => .int .i64 (if x < k then f x else 0))
  ch : Ch (fun i => i = G) w6 wr
theorem MemSt.step {w6 wr w7 : World} {G c k : Nat} {f : Nat → Int} (h : MemSt w6 wr G c k f) (k7 : Ch (fun _ => False) wr w7) : MemSt w6 (w7.setCell ⟨G, k, none⟩ (.int .i64 (f k))) G c (k + 1) f := by
  refine ⟨((k7.rowIs h.row (fun q => q)).set k _).congr fun x hx => ?_, ?_⟩
  · by_cases e : x = k
    · subst e
      rw [if_pos rfl, if_pos (Nat.lt_succ_self x)]
    · rw [if_neg e]
      by_cases q : x < k
      · rw [if_pos q, if_pos (by omega)]
      · rw [if_neg q, if_neg (by omega)]
  · exact (h.ch.trans (k7.mono fun _ _ q => q.elim)).setCell (Or.inl rfl) _
theorem MemSt.done {w w6 wr : World} {G c : Nat} {f : Nat → Int} (h : MemSt w6 wr G c c f) (k : Ch (fun _ => False) w w6) (hG : w.heap.size ≤ G) (hc : c ≤ 24) : wr.ownsRow w.heap.size /-t-/3 1 (.slice (some ⟨G, 0, none⟩) c c) c (numL c f) ∧ Ch (fun _ => False) w wr := by
  have h1 := rowIs_owns h.row hG (show c ≤ maxLen by unfold maxLen; omega)
  refine ⟨?_, k.new (h.ch.mono fun i _ q => by rw [q]; exact hG)⟩
  have e : (List.range c).map (fun x => Value.int .i64 (if x < c then f x else 0)) = numL c f := by
    unfold numL
    exact List.map_congr_left fun x hx => by rw [if_pos (List.mem_range.1 hx)]
  rwa [e] at h1
set_option maxHeartbeats 3200000 in
set_option maxRecDepth 100000 in
theorem members_of (g : Ge) (i : Int) (c b : Nat) (f : Nat → Int) (n : Gn) (j : Nat) (hc : c ≤ 24) (hn : c ≠ 0 → n.Ok ∧ j < n.grp ∧ c = n.cnt j ∧ ∀ p, f p = (n.sec j p : Int))
    (hG : ∀ w, Calls Tryz.prog 58 #[.agg (geC g), .int .i64 i] w fun e w' => ∃ F, e = .returned (.agg (grC (c : Int) (b : Int) F)) ∧ F.oneCell' = true ∧ (c ≠ 0 → TellF F n j w') ∧ Ch (fun _ => False) w w') (w : World) :
    Calls Tryz.prog 30 #[.agg (geC g), .int .i64 i] w fun e w' => ∃ G, e = .returned (.slice (some ⟨G, 0, none⟩) c c) ∧ w'.ownsRow w.heap.size /-t-/3 1 (.slice (some ⟨G, 0, none⟩) c c) c (numL c f) ∧ Ch (fun _ => False) w w' := by
  obtain ⟨w1, H, hR⟩ := geR w g
  obtain ⟨x0, x1, x2, x3⟩ := hR.x
  have HR := Lib.hid hR
  have HN := Lib.hid hn
  have HG0 := Lib.hid hG
  have HC := Lib.hid hc
  clear hR hn hG
  go_enter Tryz.func30, Tryz.ntmps30
  go_wp2_with ((with_reducible refine wpList_isOp (.box 23 (.tmp 0)) rfl ?_); refine wpList_boxing _ w1 rfl 23 (.tmp 0) rfl (geC g) H rfl (by exact HR.out.sz) (by exact HR.out.al) ?_)
  refine (HG0.out _).mono ?_
  rintro e w3 ⟨F, rfl, hF1, hF, hc3⟩
  obtain ⟨w4, H5, hZ⟩ := grZ w3
  have HZ := Lib.hid hZ
  have HROW := Lib.hid hZ.cx
  clear hZ
  obtain ⟨w5, hw5⟩ : ∃ w5, w5 = w4.setRow H5 (grC (c : Int) (b : Int) F) := ⟨_, rfl⟩
  have HW5 := Lib.hid hw5
  have hd := done_gr (s2 := (c : Int)) (b2 := (b : Int)) (F2 := F) (hc3.trans HZ.out.ch) HROW.out (by rw [← HZ.out.sz]; exact hc3.size)
  have hst : Ch (fun k => k = H5) w4 w5 := by rw [hw5]; exact (Ch.refl (fun k => k = H5) w4).setRow (g := H5) (Or.inl rfl) _
  have h35 : Ch (fun k => w3.heap.size ≤ k) w3 w5 := (HZ.out.ch.mono fun _ _ q => q.elim).trans (hst.mono fun k _ q => by rw [q, ← HZ.out.sz]; exact Nat.le_refl _)
  rw [← hw5] at hd
  have y0 : w5.cell? ⟨H5, 0, none⟩ = some (.int .i64 (c : Int)) := blk_cell hd.1
  have y2 : w5.cell? ⟨H5, 2, none⟩ = some F := blk_cell hd.1
  have HTF := Lib.hid (show c ≠ 0 → TellF F n j w5 from fun q => (hF q).off h35 (fun k hk => by omega))
  have HF1 := Lib.hid hF1
  have HD := Lib.hid (HR.out.ch.trans hd.2)
  have hmk := made_int c w5 (by omega)
  have HMR := Lib.hid (made_row c w5)
  obtain ⟨G, hG⟩ : ∃ G, G = w5.heap.size := ⟨_, rfl⟩
  obtain ⟨w6, hw6⟩ : ∃ w6, w6 = w5.alloc (.cells (madeCells #[.int .i64 0] c) /-t-/3) := ⟨_, rfl⟩
  have h56 : Ch (fun _ => False) w5 w6 := by rw [hw6]; exact (Ch.refl _ w5).alloc _ _
  have HC6 := Lib.hid (HD.out.trans h56)
  have HG := Lib.hid (show w.heap.size ≤ G by rw [hG]; exact HD.out.size)
  have HY6 := Lib.hid (h56.cell y2 (fun q => q))
  have HTF6 := Lib.hid (show c ≠ 0 → TellF F n j w6 ∧ w5.heap.size ≤ G from fun q => ⟨(HTF.out q).off h56 (fun _ _ q => q), by rw [hG]; exact Nat.le_refl _⟩)
  have HLT := Lib.hid (show H5 ≠ G by rw [hG]; have := blk_lt hd.1; omega)
  have HTO := Lib.hid (show ∀ wr, Ch (fun k => k = G) w6 wr → c ≠ 0 → TellF F n j wr from fun wr k q => (HTF.out q).off ((h56.mono fun _ _ q => q.elim).trans k) (fun k hk e => by rw [e, hG] at hk; omega))
  rw [← hG, ← hw6] at hmk HMR
  clear hd hw5 hc3 hG hw6 hF hF1 hst h35 h56 y2
  go_wp2_with (first
    | ((with_reducible refine wpList_isOp (.alloc 99) rfl ?_); refine wpList_making _ w4 rfl 99 rfl (grC 0 0 .nilFunc) H5 (zero_gr _) (by exact HZ.out.sz) (by exact HZ.out.al) ?_)
    | ((with_reducible refine wpList_isOp (.store 99 (.tmp 5) (.tmp 10)) rfl ?_); refine wpList_storing _ _ rfl 99 (.tmp 5) (.tmp 10) rfl (.agg (grC (c : Int) (b : Int) F)) ⟨H5, 0, none⟩ rfl rfl (store_gr HROW.out HF1.out) ?_; rw [← HW5.out]))
  clear hmk y0
  go_loopw [7, 16] (fun _ x wr => ∃ k : Nat, k ≤ c ∧ x = .int .i64 (k : Int) ∧ Hid (MemSt w6 wr G c k f)) (fun _ x _ => c - (intOf x).toNat)
  case atStart => exact ⟨0, Nat.zero_le _, rfl, Lib.hid ⟨HMR.out.congr fun x _ => by rw [if_neg (Nat.not_lt_zero x)], Ch.refl _ _⟩⟩
  case round =>
    obtain ⟨k, hk, rfl, HK⟩ := hrel
    by_cases hlt : k < c
    · have y2 : wr.cell? ⟨H5, 2, none⟩ = some F := HK.out.ch.cell HY6.out HLT.out
      obtain ⟨hok, hj, hcn, hf⟩ := HN.out (by omega)
      have HT := Lib.hid (HTO.out wr HK.out.ch (by omega))
      have HFK := Lib.hid (hf k)
      have HOK := Lib.hid hok
      have HJ := Lib.hid hj
      have HCN := Lib.hid hcn
      have i1 : (0 : Int) ≤ (k : Int) := Int.natCast_nonneg _
      have i2 : (k : Int) < (c : Int) := by omega
      have HST := Lib.hid (fun w7 (k7 : Ch (fun _ => False) wr w7) => HK.out.step k7)
      have HCF := Lib.hid (show ∀ w7, Ch (fun _ => False) wr w7 → (∃ u, w7.cell? ⟨G, k, none⟩ = some u) ∧ w7.frozen? ⟨G, k, none⟩ = false from fun w7 k7 => by
        have h := k7.rowIs HK.out.row (fun q => q)
        exact ⟨⟨_, h.cell hlt⟩, h.frozen k⟩)
      clear hok hj hcn hf
      rcases HT.out with ⟨h0, rfl⟩ | ⟨B, D, ⟨h0, h1⟩, rfl, hx, hdd⟩ | ⟨B, D, ⟨h0, h1⟩, rfl, hx, hdd⟩
      · have HCALL := Lib.hid (show Calls Tryz.prog 98 #[.int .i64 (k : Int)] wr (Ans (.int .i64 (f k)) wr) by rw [HFK.out, h0]; exact tell_copies n k wr)
        clear h0 HT HTO HTF HTF6
        go_wp2_with fail
        refine HCALL.out.mono ?_
        rintro e w7 ⟨rfl, hc7⟩
        obtain ⟨⟨u, c7⟩, f7⟩ := HCF.out w7 hc7
        have HS7 := Lib.hid (HST.out w7 hc7)
        clear hc7
        go_wp2
        go_roundw
        case rel => exact ⟨k + 1, by omega, by go_num, HS7⟩
        case measure => simp [intOf]; omega
      · have HCALL := Lib.hid (show Calls Tryz.prog 99 #[.int .i64 (k : Int), .pointer (some ⟨B, 0, none⟩), .pointer (some ⟨D, 0, none⟩)] wr (Ans (.int .i64 (f k)) wr) by
          rw [HFK.out]
          exact tell_slot n HOK.out j k B D h0 h1 (by have := HCN.out; unfold Gn.cnt at this; rw [if_neg h0, if_pos h1] at this; omega) wr hx hdd)
        clear h0 h1 hx hdd HT HTO HTF HTF6
        go_wp2_with fail
        refine HCALL.out.mono ?_
        rintro e w7 ⟨rfl, hc7⟩
        obtain ⟨⟨u, c7⟩, f7⟩ := HCF.out w7 hc7
        have HS7 := Lib.hid (HST.out w7 hc7)
        clear hc7
        go_wp2
        go_roundw
        case rel => exact ⟨k + 1, by omega, by go_num, HS7⟩
        case measure => simp [intOf]; omega
      · have HCALL := Lib.hid (show Calls Tryz.prog 100 #[.int .i64 (k : Int), .pointer (some ⟨B, 0, none⟩), .pointer (some ⟨D, 0, none⟩)] wr (Ans (.int .i64 (f k)) wr) by
          rw [HFK.out]
          exact tell_stripe n HOK.out j k B D HJ.out h0 h1 (by have := HCN.out; unfold Gn.cnt at this; rw [if_neg h0, if_neg h1] at this; omega) wr hx hdd)
        clear h0 h1 hx hdd HT HTO HTF HTF6
        go_wp2_with fail
        refine HCALL.out.mono ?_
        rintro e w7 ⟨rfl, hc7⟩
        obtain ⟨⟨u, c7⟩, f7⟩ := HCF.out w7 hc7
        have HS7 := Lib.hid (HST.out w7 hc7)
        clear hc7
        go_wp2
        go_roundw
        case rel => exact ⟨k + 1, by omega, by go_num, HS7⟩
        case measure => simp [intOf]; omega
    · obtain rfl : k = c := by omega
      have HP := Lib.hid (HK.out.done HC6.out HG.out HC.out)
      go_wp2
      go_ret
      exact ⟨G, rfl, HP.out.1, HP.out.2⟩
theorem members_any (g : Ge) (i : Int) (w : World) : Calls Tryz.prog 30 #[.agg (geC g), .int .i64 i] w (MemPost g i w) := by
  cases t1 : inG g i
  · have h0 := (inG_no t1).1
    refine (members_of g i 0 0 (secG g i) ⟨0, 0, 0, 0⟩ 0 (by omega) (fun q => absurd rfl q) (fun w' => (groupOf_none g i t1 w').mono (by
      rintro e w2 ⟨rfl, hc⟩
      exact ⟨_, rfl, rfl, fun q => absurd rfl q, hc⟩)) w).mono ?_
    rintro e w2 ⟨G, rfl, h1, h2⟩
    exact ⟨G, by rw [h0], by rw [h0]; exact h1, h2⟩
  · obtain ⟨n, j, hn, rfl, rfl, hj⟩ := inG_nat t1
    have h0 := cntG_ok hn hj
    refine (members_of n.ge (j : Int) (n.cnt j) (n.brs j) (secG n.ge (j : Int)) n j (Gn.cnt_le hn j) (fun _ => ⟨hn, hj, rfl, fun p => secG_ok n j p⟩) (fun w' => (groupOf_any n hn j hj w').mono (by
      rintro e w2 ⟨F, rfl, hF, hc⟩
      exact ⟨F, rfl, hF.one, fun _ => hF, hc⟩)) w).mono ?_
    rintro e w2 ⟨G, rfl, h1, h2⟩
    exact ⟨G, by rw [h0], by rw [h0]; exact h1, h2⟩
end Go.Proofs.YtlbdopcchoklhaaGreat
namespace Go.Proofs.YtlbdopcchoklhaaGreat
open Go.RowKit
set_option linter.unusedVariables false
set_option maxRecDepth 100000
set_option linter.unusedSimpArgs false

theorem swn_any (n a b : Int) (w : World) : Calls Tryz.prog 29 #[.int .i64 n, .int .i64 a, .int .i64 b] w fun e w' => e = .returned (.bool (inB n a b)) ∧ w = w' := by
  by_cases h1 : a ≤ n
  · by_cases h2 : n ≤ b
    · rw [show inB n a b = true from inB_true.2 ⟨h1, h2⟩]
      go_enter Tryz.func29, Tryz.ntmps29
      go_wp2
      go_ret
      exact ⟨rfl, rfl⟩
    · rw [show inB n a b = false from decide_eq_false (by omega)]
      go_enter Tryz.func29, Tryz.ntmps29
      go_wp2
      go_ret
      exact ⟨rfl, rfl⟩
  · rw [show inB n a b = false from decide_eq_false (by omega)]
    go_enter Tryz.func29, Tryz.ntmps29
    go_wp2
    go_ret
    exact ⟨rfl, rfl⟩
theorem st_wrap {g : Ge} (h : mayG g = true) : wrap64 (g.st - 1) = g.st - 1 := by
  have := (may_parts h).2.1
  exact IntWalk.wrap64_in _ ⟨by omega, by omega⟩
set_option maxHeartbeats 3200000 in
theorem sfirst_no (g : Ge) (a s : Int) (w : World) (h : frsB g a s = false) : Calls Tryz.prog 11 #[.agg (geC g), .int .i64 a, .int .i64 s] w (Ans (.tuple #[.int .i64 0, .int .i64 1]) w) := by
  obtain ⟨w1, H, hR⟩ := geR w g
  have HR := Lib.hid hR
  have HM := Lib.hid (gmay_any g w1)
  rcases frsB_no h with hm | ⟨hm, hc⟩
  · obtain ⟨x0, x1, x2, x3⟩ := hR.x
    rw [hm] at HM
    clear hR h hm
    go_enter Tryz.func11, Tryz.ntmps11
    go_wp2_with (first | ((with_reducible refine wpList_isOp (.box 23 (.tmp 0)) rfl ?_); refine wpList_boxing _ w1 rfl 23 (.tmp 0) rfl (geC g) H rfl (by exact HR.out.sz) (by exact HR.out.al) ?_) | fail)
    refine HM.out.mono ?_
    rintro e w2 ⟨rfl, hc2⟩
    have HC := Lib.hid (HR.out.ch.trans hc2)
    clear hc2
    go_wp2
    go_ret2
    exact ⟨rfl, HC.out⟩
  · rw [hm] at HM
    have HX := Lib.hid hR.x
    have HST := Lib.hid (st_wrap hm)
    have HW := Lib.hid (fun n a b w => swn_any n a b w)
    clear hR h hm
    go_enter Tryz.func11, Tryz.ntmps11
    obtain ⟨x0, x1, x2, x3⟩ := HX.out
    go_wp2_with (first | ((with_reducible refine wpList_isOp (.box 23 (.tmp 0)) rfl ?_); refine wpList_boxing _ w1 rfl 23 (.tmp 0) rfl (geC g) H rfl (by exact HR.out.sz) (by exact HR.out.al) ?_) | fail)
    refine HM.out.mono ?_
    rintro e w2 ⟨rfl, hc2⟩
    have HC := Lib.hid (HR.out.ch.trans hc2)
    clear x0 x1 x2 x3
    obtain ⟨x0, x1, x2, x3⟩ := HX.out.gr hc2
    clear hc2
    go_wp2_with fail
    refine (HW.out _ _ _ _).mono ?_
    rintro e w3 ⟨rfl, rfl⟩
    by_cases ha : 0 ≤ a ∧ a ≤ 1
    · rw [show inB a 0 1 = true from decide_eq_true ha]
      have hs : ¬ (0 ≤ s ∧ s ≤ g.st - 1) := by
        rcases hc with hc | ⟨h0, hc | ⟨h1, hc | ⟨h2, hc⟩⟩⟩ <;> omega
      clear hc ha
      go_wp2_with fail
      refine (HW.out _ _ _ _).mono ?_
      rintro e w3 ⟨rfl, rfl⟩
      rw [HST.out, show inB s 0 (g.st - 1) = false from decide_eq_false hs]
      clear hs
      go_wp2
      go_ret2
      exact ⟨rfl, HC.out⟩
    · rw [show inB a 0 1 = false from decide_eq_false ha]
      clear ha hc
      go_wp2
      go_ret2
      exact ⟨rfl, HC.out⟩
theorem frs_grp {n : Gn} {a s : Nat} (hn : n.Ok) (ha : a ≤ 1) (hs : s < n.S) : wrap64 (wrap64 (wrap64 (2 - (a : Int)) * n.ge.st) - (s : Int)) = (((2 - a) * n.S - s : Nat) : Int) := by
  show wrap64 (wrap64 (wrap64 (2 - (a : Int)) * (n.S : Int)) - (s : Int)) = _
  have s2 := hn.s2
  rw [IntWalk.wrap64_in (2 - (a : Int)) ⟨by omega, by omega⟩]
  rcases Nat.le_one_iff_eq_zero_or_eq_one.1 ha with rfl | rfl
  · rw [IntWalk.wrap64_in ((2 - ((0 : Nat) : Int)) * (n.S : Int)) ⟨by omega, by omega⟩, IntWalk.wrap64_in _ ⟨by omega, by omega⟩]
    omega
  · rw [IntWalk.wrap64_in ((2 - ((1 : Nat) : Int)) * (n.S : Int)) ⟨by omega, by omega⟩, IntWalk.wrap64_in _ ⟨by omega, by omega⟩]
    omega
theorem frs_at {n : Gn} {a s : Nat} (ha : a ≤ 1) (hs : s < n.S) : n.grp - ((2 - a) * n.S - s) = n.fg + (a * n.S + s) ∧ (2 - a) * n.S - s ≤ n.grp ∧ n.fg + (a * n.S + s) < n.grp := by
  unfold Gn.grp
  rcases Nat.le_one_iff_eq_zero_or_eq_one.1 ha with rfl | rfl <;> omega
set_option maxHeartbeats 6400000 in
theorem sfirst_yes (n : Gn) (a s : Nat) (w : World) (hn : n.Ok) (ha : a ≤ 1) (hs : s < n.S) : Calls Tryz.prog 11 #[.agg (geC n.ge), .int .i64 (a : Int), .int .i64 (s : Int)] w (Ans (.tuple #[.int .i64 (frsN n a s : Int), .int .i64 0]) w) := by
  obtain ⟨w1, H, hR⟩ := geR w n.ge
  have HR := Lib.hid hR
  have HX := Lib.hid hR.x
  have HM := Lib.hid (gmay_any n.ge w1)
  have HW := Lib.hid (fun n a b w => swn_any n a b w)
  rw [ok_may hn] at HM
  obtain ⟨x0, x1, x2, x3⟩ := HX.out
  have HI1 := Lib.hid (show inB (a : Int) 0 1 = true from decide_eq_true (by omega))
  have HI2 := Lib.hid (show inB (s : Int) 0 (wrap64 (n.ge.st - 1)) = true by
    rw [st_wrap (ok_may hn)]
    refine decide_eq_true ?_
    show 0 ≤ (s : Int) ∧ (s : Int) ≤ (n.S : Int) - 1
    omega)
  obtain ⟨j, hj⟩ : ∃ j, j = n.fg + (a * n.S + s) := ⟨_, rfl⟩
  obtain ⟨hj1, hj2, hj3⟩ := frs_at (n := n) ha hs
  have HB := Lib.hid (frs_grp hn ha hs)
  have hgg := hn.grp2
  have HG := Lib.hid (show IntKind.i64.wrap ((grpG n.ge) - (((2 - a) * n.S - s : Nat) : Int)) = (j : Int) by
    rw [grpG_ok hn, wrapI_in (by omega) (by omega)]
    omega)
  have hjg : j < n.grp := by rw [hj]; exact hj3
  have hcnt : cntG n.ge (j : Int) = n.q := by
    rw [cntG_ok hn hjg]
    have := hn.w1
    unfold Gn.cnt
    rw [if_neg (by rw [hj]; unfold Gn.fg; omega), if_neg (by rw [hj]; omega)]
  have HV := Lib.hid (show secG n.ge (j : Int) 0 = (frsN n a s : Int) by
    rw [secG_ok n j 0, hj, ← frsN_sec n hn a s 0, Nat.add_zero])
  have HQ := Lib.hid (show (0 : Int) < (n.q : Int) by have := hn.q1; omega)
  have HGA := Lib.hid (fun w => groups_any n.ge w)
  obtain ⟨fr, hfr⟩ : ∃ fr, fr = frsN n a s := ⟨_, rfl⟩
  rw [← hfr] at HV ⊢
  have HME : Hid (∀ (x : Int) (w : World), x = (j : Int) → Calls Tryz.prog 30 #[.agg (geC n.ge), .int .i64 x] w fun e w' => ∃ G, e = .returned (.slice (some ⟨G, 0, none⟩) n.q n.q) ∧ w'.cell? ⟨G, 0, none⟩ = some (.int .i64 (fr : Int)) ∧ Ch (fun _ => False) w w') := Lib.hid (fun x w e => by
    rw [e]
    refine (members_any n.ge (j : Int) w).mono ?_
    rintro e w' ⟨G, rfl, ho, hc⟩
    rw [hcnt] at ho ⊢
    refine ⟨G, rfl, ?_, hc⟩
    have hq := HQ.out
    have := World.ownsRow.cells ho (g := G) rfl 0 (.int .i64 (secG n.ge (j : Int) 0)) (numL_get (by omega))
    rw [add_pl, HV.out] at this
    exact this)
  clear hR hn ha hs hj hj1 hj2 hj3 hgg hjg hcnt hfr HV
  go_enter Tryz.func11, Tryz.ntmps11
  go_wp2_with (first | ((with_reducible refine wpList_isOp (.box 23 (.tmp 0)) rfl ?_); refine wpList_boxing _ w1 rfl 23 (.tmp 0) rfl (geC n.ge) H rfl (by exact HR.out.sz) (by exact HR.out.al) ?_) | fail)
  refine HM.out.mono ?_
  rintro e w2 ⟨rfl, hc2⟩
  have HC := Lib.hid (HR.out.ch.trans hc2)
  clear x0 x1 x2 x3
  obtain ⟨x0, x1, x2, x3⟩ := HX.out.gr hc2
  have HX2 := Lib.hid (HX.out.gr hc2)
  clear hc2
  go_wp2_with fail
  refine (HW.out _ _ _ _).mono ?_
  rintro e w3 ⟨rfl, rfl⟩
  rw [HI1.out]
  go_wp2_with fail
  refine (HW.out _ _ _ _).mono ?_
  rintro e w3 ⟨rfl, rfl⟩
  rw [HI2.out]
  go_upto_region 4 with fail
  rw [HB.out]
  obtain ⟨bh, hbh⟩ : ∃ bh, bh = (2 - a) * n.S - s := ⟨_, rfl⟩
  rw [← hbh] at HG ⊢
  clear hbh
  have q0 := HQ.out
  have q1 : 0 < n.q := by omega
  obtain ⟨wd, hwd⟩ : ∃ wd, wd = w2.drew := ⟨_, rfl⟩
  have HD := Lib.hid (show Ch (fun _ => False) w2 wd by rw [hwd]; exact (Ch.refl _ w2).drew)
  refine wp_region_held (S := fun W => W.cell? ⟨H, 0, none⟩ = some (.int .i64 n.ge.wal) ∧ W.cell? ⟨H, 1, none⟩ = some (.int .i64 n.ge.st) ∧ W.cell? ⟨H, 2, none⟩ = some (.int .i64 n.ge.k) ∧ W.cell? ⟨H, 3, none⟩ = some (.int .i64 n.ge.m)) (by kernel_rfl) ?_
  change wpAnyH _ _ _ _ _ _ _ _ (World.drew _)
  rw [← hwd]
  have HS := (HX2.out.gr HD.out).all
  clear hwd
  refine wpAnyH_take (i := 0) (oi := ⟨some 32, .load 23 (.tmp 3), _, _, _, none⟩) (v := .agg (geC n.ge)) rfl (by kernel_rfl) (by kernel_rfl) (by kernel_rfl) (fun _ _ _ h => h) (Or.inl ⟨by rfl, fun w' hS => ?_⟩) HS ?_
  · obtain ⟨z0, z1, z2, z3⟩ := hS
    go_simp
    rfl
  simp only [Act.put, List.setIfInBounds_toArray, List.set_cons_zero, List.set_cons_succ]
  refine wpAnyH_take (i := 1) (oi := ⟨some 33, .load 23 (.tmp 3), _, _, _, none⟩) (v := .agg (geC n.ge)) rfl (by kernel_rfl) (by kernel_rfl) (by kernel_rfl) (fun _ _ _ h => h) (Or.inl ⟨by rfl, fun w' hS => ?_⟩) HS ?_
  · obtain ⟨z0, z1, z2, z3⟩ := hS
    go_simp
    rfl
  simp only [Act.put, List.setIfInBounds_toArray, List.set_cons_zero, List.set_cons_succ]
  refine wpAnyH_take (i := 3) (oi := ⟨some 35, .move (.tmp 8), _, _, _, none⟩) (v := .int .i64 (bh : Int)) rfl (by kernel_rfl) (by kernel_rfl) (by kernel_rfl) (fun _ _ _ h => h) (Or.inl ⟨by rfl, fun w' hS => ?_⟩) HS ?_
  · clear hS; go_simp
  simp only [Act.put, List.setIfInBounds_toArray, List.set_cons_zero, List.set_cons_succ]
  refine wpAnyH_ready (rs := [2]) (by kernel_rfl) (by simp) ?_
  refine AllReadyH.cons rfl (fun K hK => ?_) AllReadyH.nil
  go_simp
  refine (HGA.out _).mono ?_
  rintro e w3 ⟨rfl, hc3⟩
  dsimp only
  have HS3 := ((HX2.out.gr HD.out).gr hc3).all
  refine hK.out _ _ HS3 (fun _ => ?_)
  clear hK K HS
  try simp only [Act.put, List.setIfInBounds_toArray, List.set_cons_zero, List.set_cons_succ]
  refine wpAnyH_take (i := 4) (oi := ⟨some 36, .binOp .sub /-t-/3 (.tmp 34) (.tmp 35) /-t-/3, _, _, _, none⟩) (v := .int .i64 (j : Int)) rfl (by kernel_rfl) (by kernel_rfl) (by kernel_rfl) (fun _ _ _ h => h) (Or.inl ⟨by rfl, fun w' hS => ?_⟩) HS3 ?_
  · clear hS; go_simp; rw [HG.out]
  simp only [Act.put, List.setIfInBounds_toArray, List.set_cons_zero, List.set_cons_succ]
  refine wpAnyH_ready (rs := [5]) (by kernel_rfl) (by simp) ?_
  refine AllReadyH.cons rfl (fun K hK => ?_) AllReadyH.nil
  go_simp
  refine (HME.out _ _ rfl).mono ?_
  rintro e w4 ⟨G, rfl, g0, hc4⟩
  dsimp only
  have HS4 := (((HX2.out.gr HD.out).gr hc3).gr hc4).all
  refine hK.out _ _ HS4 (fun _ => ?_)
  clear hK K HS3
  try simp only [Act.put, List.setIfInBounds_toArray, List.set_cons_zero, List.set_cons_succ]
  refine wpAnyH_take (i := 6) (oi := ⟨some 38, .indexAddr 58 (.tmp 37) (.const (.int .i64 0)), _, _, _, none⟩) (v := .pointer (some ⟨G, 0, none⟩)) rfl (by kernel_rfl) (by kernel_rfl) (by kernel_rfl) (fun _ _ _ h => h) (Or.inl ⟨by rfl, fun w' hS => ?_⟩) HS4 ?_
  · clear hS; go_simp
  simp only [Act.put, List.setIfInBounds_toArray, List.set_cons_zero, List.set_cons_succ]
  refine wpAnyH_ready (rs := [7]) (by kernel_rfl) (by simp) ?_
  refine AllReadyH.cons rfl (fun K hK => ?_) AllReadyH.nil
  go_simp
  refine hK.out _ _ HS4 (fun _ => ?_)
  clear hK K
  try simp only [Act.put, List.setIfInBounds_toArray, List.set_cons_zero, List.set_cons_succ]
  refine wpAnyH_take (i := 8) (oi := ⟨some 6, .assign (.tmp 39), _, _, _, none⟩) (v := .int .i64 (fr : Int)) rfl (by kernel_rfl) (by kernel_rfl) (by kernel_rfl) (fun _ _ _ h => h) (Or.inl ⟨by rfl, fun w' hS => ?_⟩) HS4 ?_
  · clear hS; go_simp
  simp only [Act.put, List.setIfInBounds_toArray, List.set_cons_zero, List.set_cons_succ]
  refine wpAnyH_take (i := 9) (oi := ⟨some 7, .assign (.const (.int .i64 0)), _, _, _, none⟩) (v := .int .i64 0) rfl (by kernel_rfl) (by kernel_rfl) (by kernel_rfl) (fun _ _ _ h => h) (Or.inl ⟨by rfl, fun w' hS => ?_⟩) HS4 ?_
  · clear hS; go_simp
  simp only [Act.put, List.setIfInBounds_toArray, List.set_cons_zero, List.set_cons_succ]
  refine wpAnyH_done (by kernel_rfl) ?_ _
  go_wp2
  go_ret2
  exact ⟨rfl, HC.out.trans (HD.out.trans (hc3.trans hc4))⟩
end Go.Proofs.YtlbdopcchoklhaaGreat
