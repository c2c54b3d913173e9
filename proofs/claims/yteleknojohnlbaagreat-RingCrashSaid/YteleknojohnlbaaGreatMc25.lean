/-
  ring's mirrors: what they tell of a number, walked.
-/
import Derived.Test.YteleknojohnlbaaGreatMc24
import Derived.Test.YteleknojohnlbaaGreatMc1
import Derived.Deep.DeepCutAuto
namespace Go.Proofs.YteleknojohnlbaaGreat
open Go.RowKit
set_option linter.unusedVariables false
set_option maxRecDepth 100000
structure Mi where
  vol : Int
  g : Gn
  A : Nat → Option Addr
  C : Nat → Nat
  N : Nat → Nat → Nat
  Z : Nat → Nat → Nat → Nat
def miC (m : Mi) : Array Value := #[.int .i64 m.vol, .int .i64 (m.g.W : Int), .int .i64 (m.g.S : Int), .int .i64 (m.g.K : Int), .int .i64 (m.g.M : Int), .slice (m.A 0) m.g.W (m.C 0), .slice (m.A 1) m.g.W (m.C 1)]
structure MiIs (w : World) (m : Mi) : Prop where
  ok : m.g.Ok
  vol : 0 ≤ m.vol ∧ m.vol ≤ 4294967295
  r0 : BsV w (m.A 0) m.g.W (m.C 0) (m.N 0) (m.Z 0)
  r1 : BsV w (m.A 1) m.g.W (m.C 1) (m.N 1) (m.Z 1)
theorem MiIs.gr {w w' : World} {m : Mi} (h : MiIs w m) (k : Ch (fun _ => False) w w') : MiIs w' m := ⟨h.ok, h.vol, h.r0.gr k, h.r1.gr k⟩
structure SlX (w : World) (b o n : Nat) (z : Nat → Nat) (A' : Option Addr) (C' : Nat) : Prop where
  cell : w.cell? ⟨b, o, none⟩ = some (.slice A' n C')
  row : RowV w (.slice A' n C') n z
theorem MiIs.slot {w : World} {m : Mi} (h : MiIs w m) {s : Nat} (hs : s < m.g.W) {c : Nat} (hc : c = 0 ∨ c = 1) : ∃ b o A' C', m.A c = some ⟨b, o, none⟩ ∧ SlX w b (o + s) (m.N c s) (m.Z c s) A' C' := by
  rcases hc with rfl | rfl
  · obtain ⟨b, o, hA, hr⟩ := h.r0.at' (by omega)
    obtain ⟨A', C', h1, h2⟩ := hr s hs
    exact ⟨b, o, A', C', hA, h1, h2⟩
  · obtain ⟨b, o, hA, hr⟩ := h.r1.at' (by omega)
    obtain ⟨A', C', h1, h2⟩ := hr s hs
    exact ⟨b, o, A', C', hA, h1, h2⟩
def atS (o : Option Pn) (s : Int) : Option Pn := match o with | some p => if p.seq = s then some p else none | none => none
def candR (c0 c1 : Option Pn) : List Pn :=
  match c0, c1 with
  | none, none => []
  | some a, none => [a]
  | none, some b => [b]
  | some a, some b => if a.ep < b.ep then [b, a] else [a, b]
def TellsM (m : Mi) (s : Nat) (c : Nat) (o : Option Pn) : Prop := TellR (m.N c (s % m.g.W)) (m.Z c (s % m.g.W)) m.vol m.g.ge (c : Int) ((s % m.g.W : Nat) : Int) o
structure ToldSt (m : Mi) (s : Nat) (w wr : World) (k : Nat) (v : Value) : Prop where
  row : ∃ (O : Nat → Option Pn) (L : List Pv), (∀ c, c < k → TellsM m s c (O c)) ∧ L.map Pv.p = (List.range k).flatMap (fun c => (atS (O c) (s : Int)).toList) ∧ RwO kdP elP w wr v L
  ch : Ch (fun _ => False) w wr
def HoldT (m : Mi) (b O H : Nat) (A' : Option Addr) (nn C' : Nat) (w : World) : Prop := (fun w' => w'.cell? ⟨b, O, none⟩ = some (.slice A' nn C') ∧ w'.cell? ⟨H, 0, none⟩ = some (.int .i64 m.vol) ∧ w'.cell? ⟨H, 1, none⟩ = some (.int .i64 (m.g.W : Int)) ∧ w'.cell? ⟨H, 2, none⟩ = some (.int .i64 (m.g.S : Int)) ∧ w'.cell? ⟨H, 3, none⟩ = some (.int .i64 (m.g.K : Int)) ∧ w'.cell? ⟨H, 4, none⟩ = some (.int .i64 (m.g.M : Int))) w
theorem holds_gr {m : Mi} {b O H nn C' : Nat} {A' : Option Addr} {w w' : World} (h : HoldT m b O H A' nn C' w) (k : Ch (fun _ => False) w w') : HoldT m b O H A' nn C' w' := by
  obtain ⟨s0, s1, s2, s3, s4, s5⟩ := h
  exact ⟨k.cell s0 (fun f => f), k.cell s1 (fun f => f), k.cell s2 (fun f => f), k.cell s3 (fun f => f), k.cell s4 (fun f => f), k.cell s5 (fun f => f)⟩
theorem holds_set {m : Mi} {b O H D nn C' : Nat} {A' : Option Addr} {w w' : World} (h : HoldT m b O H A' nn C' w) (k : Ch (fun i => i = D) w w') (hb : b ≠ D) (hH : H ≠ D) : HoldT m b O H A' nn C' w' := by
  obtain ⟨s0, s1, s2, s3, s4, s5⟩ := h
  exact ⟨k.cell s0 hb, k.cell s1 hH, k.cell s2 hH, k.cell s3 hH, k.cell s4 hH, k.cell s5 hH⟩
structure ToF (m : Mi) (s J : Nat) (w wr wx : World) (D : Nat) (o : Option Pn) (V : Value) : Prop where
  tell : TellsM m s J o
  var : wx.heap[D]? = some (.cells (pcC (optP o) V) 26 (0, 0))
  row : RowN w wx V (optP o).B.length (Cod.litZ (optP o).B)
  ch : Ch (fun _ => False) wr wx
theorem ToF.byt {m : Mi} {s J : Nat} {w wr wx : World} {D : Nat} {o : Option Pn} {V : Value} (h : ToF m s J w wr wx D o V) : ∀ c ∈ (optP o).B, c < 256 := fun c hc => by
  cases o with
  | none => cases hc
  | some p => exact ((h.tell p).1 rfl).byt c hc
theorem tofA {m : Mi} {s J : Nat} {w wr wd w2 wz wx : World} {D : Nat} {o : Option Pn} {V : Value} (hw : Ch (fun _ => False) w wr) (hd : Ch (fun _ => False) wr wd) (ho : TellsM m s J o) (hN : RowN wd w2 V (optP o).B.length (Cod.litZ (optP o).B)) (hc : Ch (fun _ => False) wd w2)
    (hV : VarR w2 wz wx D (pcC pn0 (.slice none 0 0)) (pcC (optP o) V) 26) : ToF m s J w wr wx D o V :=
  ⟨ho, hV.cx, (hN.gr hV.ch).low (Nat.le_trans hw.size hd.size), (hd.trans hc).trans hV.ch⟩
theorem tofB {m : Mi} {s J : Nat} {w wr wd wz w2 wx : World} {D : Nat} {o : Option Pn} {V : Value} (hw : Ch (fun _ => False) w wr) (hd : Ch (fun _ => False) wr wd) (hZ : ZePc wd wz D) (ho : TellsM m s J o) (hN : RowN wz w2 V (optP o).B.length (Cod.litZ (optP o).B)) (hc : Ch (fun _ => False) wz w2)
    (hx : w2.heap[D]? = some (.cells (pcC pn0 (.slice none 0 0)) 26 (0, 0))) (hV : StPc w2 wx D (optP o) V) : ToF m s J w wr wx D o V :=
  ⟨ho, hV.cx, (hN.set hV.ch hx (by decide)).low (Nat.le_trans (Nat.le_trans hw.size hd.size) hZ.ch.size), ((hd.trans hZ.ch).trans hc).new (hV.ch.mono fun i _ hi => by rw [hi, ← hZ.sz]; exact hd.size)⟩
theorem index_0 (A B : Option Addr) (n m C D : Nat) (w : World) : (Instr.index 92 (.agg #[.slice A n C, .slice B m D]) (.int .i64 0)).run Tryz.prog w = .ok (.slice A n C) w := by kernel_rfl
theorem index_1 (A B : Option Addr) (n m C D : Nat) (w : World) : (Instr.index 92 (.agg #[.slice A n C, .slice B m D]) (.int .i64 1)).run Tryz.prog w = .ok (.slice B m D) w := by kernel_rfl
theorem flat_len {α : Type} (f : Nat → Option α) : ∀ k, ((List.range k).flatMap fun c => (f c).toList).length ≤ k
  | 0 => Nat.le_refl 0
  | k + 1 => by
    have ih := flat_len f k
    rw [List.range_succ, List.flatMap_append, List.length_append]
    have : ([k].flatMap fun c => (f c).toList).length ≤ 1 := by
      cases h : f k <;> simp [h]
    omega
theorem flatMap_cg {α β : Type} {f g : α → List β} : ∀ {L : List α}, (∀ x ∈ L, f x = g x) → L.flatMap f = L.flatMap g
  | [], _ => rfl
  | x :: L, h => by
    rw [List.flatMap_cons, List.flatMap_cons, h x (List.mem_cons_self ..), flatMap_cg fun y hy => h y (List.mem_cons_of_mem _ hy)]
theorem told_step {m : Mi} {s : Nat} {w w2 : World} {k : Nat} {v2 : Value} {o : Option Pn} {O : Nat → Option Pn} {L L2 : List Pv} (hO : ∀ c, c < k → TellsM m s c (O c)) (hL : L.map Pv.p = (List.range k).flatMap (fun c => (atS (O c) (s : Int)).toList)) (ho : TellsM m s k o) (h2 : L2.map Pv.p = L.map Pv.p ++ (atS o (s : Int)).toList)
    (hr : RwO kdP elP w w2 v2 L2) (hc : Ch (fun _ => False) w w2) : ToldSt m s w w2 (k + 1) v2 := by
  refine ⟨⟨up O k o, L2, fun c hc => ?_, ?_, hr⟩, hc⟩
  · by_cases q : c = k
    · subst q; rw [up_same]; exact ho
    · rw [up_other _ _ q]; exact hO c (by omega)
  · rw [h2, hL, List.range_succ, List.flatMap_append]
    congr 1
    · refine flatMap_cg fun c hc => ?_
      rw [up_other _ _ (by have := List.mem_range.1 hc; omega)]
    · simp [up_same]
set_option maxHeartbeats 25600000 in
theorem mtold_st (m : Mi) (s : Nat) (w : World) (h : MiIs w m) (hs : s ≤ 4294967807) (R : World → Value → Prop)
    (hfin : ∀ w1 wr v, Ch (fun _ => False) w w1 → ToldSt m s w1 wr 2 v → Calls Tryz.prog 123 #[v, .func (.func 124) #[] #[]] wr fun e w' => e = .returned (.tuple #[]) ∧ R w' v) :
    Calls Tryz.prog 90 #[.agg (miC m), .int .i64 (s : Int)] w fun e w' => ∃ v, e = .returned v ∧ R w' v := by
  obtain ⟨w1, H, hR⟩ := boxR w (miC m) 94
  have x0 : w1.cell? ⟨H, 0, none⟩ = some (.int .i64 m.vol) := blk_cell hR.cx
  have x1 : w1.cell? ⟨H, 1, none⟩ = some (.int .i64 (m.g.W : Int)) := blk_cell hR.cx
  have x2 : w1.cell? ⟨H, 2, none⟩ = some (.int .i64 (m.g.S : Int)) := blk_cell hR.cx
  have x3 : w1.cell? ⟨H, 3, none⟩ = some (.int .i64 (m.g.K : Int)) := blk_cell hR.cx
  have x4 : w1.cell? ⟨H, 4, none⟩ = some (.int .i64 (m.g.M : Int)) := blk_cell hR.cx
  have x5 : w1.cell? ⟨H, 5, none⟩ = some (.slice (m.A 0) m.g.W (m.C 0)) := blk_cell hR.cx
  have x6 : w1.cell? ⟨H, 6, none⟩ = some (.slice (m.A 1) m.g.W (m.C 1)) := blk_cell hR.cx
  have w0 := h.ok.w1
  have wz : ¬ (m.g.W : Int) = 0 := by omega
  have HX := Lib.hid hR.cx
  have HR := Lib.hid hR
  have HH := Lib.hid (h.gr hR.ch)
  have HCR := Lib.hid hR.ch
  have HFI := Lib.hid hfin
  obtain ⟨q, hq⟩ : ∃ q, q = s % m.g.W := ⟨_, rfl⟩
  have e1 : (s : Int) % (m.g.W : Int) = (q : Int) := by rw [hq]; exact (Int.natCast_emod s m.g.W).symm
  have HQW := Lib.hid (show q < m.g.W by rw [hq]; exact Nat.mod_lt _ (by omega))
  have HST := Lib.hid (show ToldSt m s w1 w1 0 (.slice none 0 0) from ⟨⟨fun _ => none, [], fun c hc => absurd hc (Nat.not_lt_zero c), rfl, RwO.start _ _ _ _⟩, Ch.refl _ w1⟩)
  have HQE := Lib.hid hq
  clear hR h hfin hq w0
  go_enter Tryz.func90, Tryz.ntmps90
  go_wp2_with (first | ((with_reducible refine wpList_isOp (.box 94 (.tmp 0)) rfl ?_); refine wpList_boxing _ w1 rfl 94 (.tmp 0) rfl (miC m) H rfl (by exact HR.out.sz) (by exact HR.out.al) ?_))
  rw [e1]
  clear x0 x1 x2 x3 x4 x5 x6 wz e1 HR
  go_loopw [6, 18] (fun v i wr => ∃ k : Nat, k ≤ 2 ∧ i = .int .i64 k ∧ Hid (ToldSt m s w1 wr k v)) (fun v i _ => 2 - (intOf i).toNat)
  case atStart => exact ⟨0, by omega, rfl, HST⟩
  case round =>
    obtain ⟨k, hk, rfl, HT⟩ := hrel
    by_cases hlt : k < 2
    · rcases (show k = 0 ∨ k = 1 by omega) with rfl | rfl
      · rw [show ((0 : Nat) : Int) = 0 from rfl]
        obtain ⟨b, o, A', C', hA, hsl⟩ := (HH.out.gr (HT.out.ch)).slot HQW.out (c := 0) (by decide)
        obtain ⟨O, hO⟩ : ∃ O, O = o + q := ⟨_, rfl⟩
        rw [← hO] at hsl
        obtain ⟨nn, hnn⟩ : ∃ nn, nn = m.N 0 q := ⟨_, rfl⟩
        rw [← hnn] at hsl
        obtain ⟨wd, hwd⟩ : ∃ wd, wd = wr.drew := ⟨_, rfl⟩
        have hcd : Ch (fun _ => False) wr wd := by rw [hwd]; exact (Ch.refl _ wr).drew
        have hX := (HT.out.ch.block H (blk_lt HX.out) (fun f => f)).trans HX.out
        have HS := Lib.hid (show HoldT m b O H A' nn C' wd from holds_gr ⟨hsl.cell, blk_cell hX, blk_cell hX, blk_cell hX, blk_cell hX, blk_cell hX⟩ hcd)
        have HS0 := Lib.hid hsl.row
        have HTD := Lib.hid (fun W (hr : RowV W (.slice A' nn C') nn (m.Z 0 q)) => (rtold_any A' nn C' (m.Z 0 q) m.vol m.g.ge 0 (q : Int) W (by have := HH.out.vol; unfold N64; omega) hr).mono (R' := fun e w2 => ∃ o V, TellsM m s 0 o ∧ e = .returned (.tuple #[.agg (pcC (optP o) V), .bool o.isSome]) ∧ RowN W w2 V (optP o).B.length (Cod.litZ (optP o).B) ∧ Ch (fun _ => False) W w2) fun e w2 ⟨o, V, q1, q2, q3, q4⟩ => ⟨o, V, by rw [hnn, HQE.out] at q1; exact q1, q2, q3, q4⟩)
        have HA := Lib.hid hA
        have HO := Lib.hid hO.symm
        have HWD := Lib.hid hwd
        have HCD := Lib.hid hcd
        have HCW := Lib.hid HT.out.ch
        have i1 : (0 : Int) ≤ (q : Int) := Int.natCast_nonneg _
        have i2 : (q : Int) < (m.g.W : Int) := by have := HQW.out; omega
        have i3 : q < m.g.W := HQW.out
        have hix := index_0 (m.A 0) (m.A 1) m.g.W m.g.W (m.C 0) (m.C 1) wr
        clear hA hsl hO hnn hwd hcd hX hlt hk
        go_upto_region 6 with fail
        go_cut [9, 10] (fun v u wx => ∃ D o V, v = .pointer (some ⟨D, 0, none⟩) ∧ u = .bool o.isSome ∧ Hid (ToF m s 0 w1 wr wx D o V))
        case first =>
          refine wp_region_held (S := (fun w' => w'.cell? ⟨b, O, none⟩ = some (.slice A' nn C') ∧ w'.cell? ⟨H, 0, none⟩ = some (.int .i64 m.vol) ∧ w'.cell? ⟨H, 1, none⟩ = some (.int .i64 (m.g.W : Int)) ∧ w'.cell? ⟨H, 2, none⟩ = some (.int .i64 (m.g.S : Int)) ∧ w'.cell? ⟨H, 3, none⟩ = some (.int .i64 (m.g.K : Int)) ∧ w'.cell? ⟨H, 4, none⟩ = some (.int .i64 (m.g.M : Int)))) (by kernel_rfl) ?_
          change wpAnyH _ _ _ _ _ _ _ _ (World.drew _)
          rw [← HWD.out]
          refine wpAnyH_take (i := 0) (oi := ⟨some 23, .move (.tmp 8), _, _, _, none⟩) (v := .slice (m.A 0) m.g.W (m.C 0)) rfl (by kernel_rfl) (by kernel_rfl) (by kernel_rfl) (fun _ _ _ h => h) (Or.inl ⟨by rfl, fun w' hS => ?_⟩) HS.out ?_
          · clear hS; go_simp
          simp only [Act.put, List.setIfInBounds_toArray, List.set_cons_zero, List.set_cons_succ]
          refine wpAnyH_take (i := 1) (oi := ⟨some 24, .move (.tmp 5), _, _, _, none⟩) (v := .int .i64 (q : Int)) rfl (by kernel_rfl) (by kernel_rfl) (by kernel_rfl) (fun _ _ _ h => h) (Or.inl ⟨by rfl, fun w' hS => ?_⟩) HS.out ?_
          · clear hS; go_simp
          simp only [Act.put, List.setIfInBounds_toArray, List.set_cons_zero, List.set_cons_succ]
          refine wpAnyH_take (i := 2) (oi := ⟨some 25, .indexAddr 37 (.tmp 23) (.tmp 24), _, _, _, none⟩) (v := .pointer (some ⟨b, O, none⟩)) rfl (by kernel_rfl) (by kernel_rfl) (by kernel_rfl) (fun _ _ _ h => h) (Or.inl ⟨by rfl, fun w' hS => ?_⟩) HS.out ?_
          · clear hS; have hA := HA.out; have hO := HO.out; go_simp
          simp only [Act.put, List.setIfInBounds_toArray, List.set_cons_zero, List.set_cons_succ]
          refine wpAnyH_take (i := 3) (oi := ⟨some 26, .load 24 (.tmp 25), _, _, _, none⟩) (v := .slice A' nn C') rfl (by kernel_rfl) (by kernel_rfl) (by kernel_rfl) (fun _ _ _ h => h) (Or.inl ⟨by rfl, fun w' hS => ?_⟩) HS.out ?_
          · obtain ⟨s0, s1, s2, s3, s4, s5⟩ := hS; go_simp
          simp only [Act.put, List.setIfInBounds_toArray, List.set_cons_zero, List.set_cons_succ]
          refine wpAnyH_take (i := 4) (oi := ⟨some 27, .fieldAddr 94 (.tmp 2) 0, _, _, _, none⟩) (v := .pointer (some ⟨H, 0, none⟩)) rfl (by kernel_rfl) (by kernel_rfl) (by kernel_rfl) (fun _ _ _ h => h) (Or.inl ⟨by rfl, fun w' hS => ?_⟩) HS.out ?_
          · clear hS; go_simp
          simp only [Act.put, List.setIfInBounds_toArray, List.set_cons_zero, List.set_cons_succ]
          refine wpAnyH_take (i := 5) (oi := ⟨some 28, .load 3 (.tmp 27), _, _, _, none⟩) (v := .int .i64 m.vol) rfl (by kernel_rfl) (by kernel_rfl) (by kernel_rfl) (fun _ _ _ h => h) (Or.inl ⟨by rfl, fun w' hS => ?_⟩) HS.out ?_
          · obtain ⟨s0, s1, s2, s3, s4, s5⟩ := hS; go_simp
          simp only [Act.put, List.setIfInBounds_toArray, List.set_cons_zero, List.set_cons_succ]
          refine wpAnyH_take (i := 6) (oi := ⟨some 29, .fieldAddr 94 (.tmp 2) 1, _, _, _, none⟩) (v := .pointer (some ⟨H, 1, none⟩)) rfl (by kernel_rfl) (by kernel_rfl) (by kernel_rfl) (fun _ _ _ h => h) (Or.inl ⟨by rfl, fun w' hS => ?_⟩) HS.out ?_
          · clear hS; go_simp
          simp only [Act.put, List.setIfInBounds_toArray, List.set_cons_zero, List.set_cons_succ]
          refine wpAnyH_take (i := 7) (oi := ⟨some 30, .load 23 (.tmp 29), _, _, _, none⟩) (v := .agg (geC m.g.ge)) rfl (by kernel_rfl) (by kernel_rfl) (by kernel_rfl) (fun _ _ _ h => h) (Or.inl ⟨by rfl, fun w' hS => ?_⟩) HS.out ?_
          · obtain ⟨s0, s1, s2, s3, s4, s5⟩ := hS; go_simp; rfl
          simp only [Act.put, List.setIfInBounds_toArray, List.set_cons_zero, List.set_cons_succ]
          refine wpAnyH_take (i := 8) (oi := ⟨some 31, .move (.tmp 7), _, _, _, none⟩) (v := .int .i64 0) rfl (by kernel_rfl) (by kernel_rfl) (by kernel_rfl) (fun _ _ _ h => h) (Or.inl ⟨by rfl, fun w' hS => ?_⟩) HS.out ?_
          · clear hS; go_simp
          simp only [Act.put, List.setIfInBounds_toArray, List.set_cons_zero, List.set_cons_succ]
          refine wpAnyH_take (i := 9) (oi := ⟨some 32, .move (.tmp 5), _, _, _, none⟩) (v := .int .i64 (q : Int)) rfl (by kernel_rfl) (by kernel_rfl) (by kernel_rfl) (fun _ _ _ h => h) (Or.inl ⟨by rfl, fun w' hS => ?_⟩) HS.out ?_
          · clear hS; go_simp
          simp only [Act.put, List.setIfInBounds_toArray, List.set_cons_zero, List.set_cons_succ]
          refine wpAnyH_ready (rs := [10, 14]) (by kernel_rfl) (by simp) ?_
          refine AllReadyH.cons rfl (fun K hK => ?_) (AllReadyH.cons rfl (fun K hK => ?_) AllReadyH.nil)
          · go_simp
            refine (HTD.out wd (HS0.out.gr HCD.out)).mono ?_
            rintro e w2 ⟨o, V, ho, rfl, hN, hc⟩
            obtain ⟨wz, wx, D, hV⟩ := varPc (optP o) (by obtain ⟨A, C, e⟩ := hN.len; exact ⟨_, _, _, e⟩) w2
            have HFIN := Lib.hid (tofA HCW.out HCD.out ho hN hc hV)
            have HS2 := Lib.hid (holds_gr HS.out hc)
            have HSZ := Lib.hid (holds_gr HS2.out ((Ch.refl (fun _ => False) w2).alloc (pcC pn0 (.slice none 0 0)) 26))
            have HSX := Lib.hid (holds_gr HS2.out hV.ch)
            have HZA := Lib.hid hV.al
            rw [hV.al] at HSZ
            have HV := Lib.hid hV
            clear ho hN hc hV
            dsimp only
            refine hK.out _ _ HS2.out (fun _ => ?_)
            clear hK K
            try simp only [Act.put, List.setIfInBounds_toArray, List.set_cons_zero, List.set_cons_succ]
            refine wpAnyH_take (i := 11) (oi := ⟨some 22, .move (.tmp 33), _, _, _, none⟩) (v := .tuple #[.agg (pcC (optP o) V), .bool o.isSome]) rfl (by kernel_rfl) (by kernel_rfl) (by kernel_rfl) (fun _ _ _ h => h) (Or.inl ⟨by rfl, fun w' hS => ?_⟩) HS2.out ?_
            · clear hS; go_simp
            simp only [Act.put, List.setIfInBounds_toArray, List.set_cons_zero, List.set_cons_succ]
            refine wpAnyH_take (i := 12) (oi := ⟨some 34, .extract (.tmp 22) 0, _, _, _, none⟩) (v := .agg (pcC (optP o) V)) rfl (by kernel_rfl) (by kernel_rfl) (by kernel_rfl) (fun _ _ _ h => h) (Or.inl ⟨by rfl, fun w' hS => ?_⟩) HS2.out ?_
            · clear hS; go_simp
            simp only [Act.put, List.setIfInBounds_toArray, List.set_cons_zero, List.set_cons_succ]
            refine wpAnyH_take (i := 13) (oi := ⟨some 35, .extract (.tmp 22) 1, _, _, _, none⟩) (v := .bool o.isSome) rfl (by kernel_rfl) (by kernel_rfl) (by kernel_rfl) (fun _ _ _ h => h) (Or.inl ⟨by rfl, fun w' hS => ?_⟩) HS2.out ?_
            · clear hS; go_simp
            simp only [Act.put, List.setIfInBounds_toArray, List.set_cons_zero, List.set_cons_succ]
            refine wpAnyH_ready (rs := [14]) (by kernel_rfl) (by simp) ?_
            refine AllReadyH.cons rfl (fun K hK => ?_) AllReadyH.nil
            refine step_making (o := ⟨some 9, .alloc 26, _, _, _, none⟩) wz rfl 26 rfl (pcC pn0 (.slice none 0 0)) D (zero_pc _) HV.out.sz HV.out.al ?_
            refine hK.out _ _ HSZ.out (fun _ => ?_)
            clear hK K
            try simp only [Act.put, List.setIfInBounds_toArray, List.set_cons_zero, List.set_cons_succ]
            refine wpAnyH_ready (rs := [15]) (by kernel_rfl) (by simp) ?_
            refine AllReadyH.cons rfl (fun K hK => ?_) AllReadyH.nil
            refine step_storing (o := ⟨none, .store 26 (.tmp 9) (.tmp 34), _, _, _, none⟩) wx rfl 26 (.tmp 9) (.tmp 34) rfl (.agg (pcC (optP o) V)) ⟨D, 0, none⟩ rfl rfl HV.out.st ?_
            refine hK.out _ _ HSX.out (fun _ => ?_)
            clear hK K
            refine wpAnyH_take (i := 16) (oi := ⟨some 10, .assign (.tmp 35), _, _, _, none⟩) (v := .bool o.isSome) rfl (by kernel_rfl) (by kernel_rfl) (by kernel_rfl) (fun _ _ _ h => h) (Or.inl ⟨by rfl, fun w' hS => ?_⟩) HSX.out ?_
            · clear hS; go_simp
            try simp only [Act.put, List.setIfInBounds_toArray, List.set_cons_zero, List.set_cons_succ]
            refine wpAnyH_done (by kernel_rfl) ?_ _
            go_wp2_with fail
            go_meet
            case rel => exact ⟨_, o, V, rfl, rfl, HFIN⟩
          · obtain ⟨wz, D, hZ⟩ := zePc wd
            have HZZ := Lib.hid hZ
            have HSZ := Lib.hid (holds_gr HS.out hZ.ch)
            clear hZ
            refine step_making (o := ⟨some 9, .alloc 26, _, _, _, none⟩) wz rfl 26 rfl (pcC pn0 (.slice none 0 0)) D (zero_pc _) HZZ.out.sz HZZ.out.al ?_
            refine hK.out _ _ HSZ.out (fun _ => ?_)
            clear hK K
            try simp only [Act.put, List.setIfInBounds_toArray, List.set_cons_zero, List.set_cons_succ]
            refine wpAnyH_ready (rs := [10]) (by kernel_rfl) (by simp) ?_
            refine AllReadyH.cons rfl (fun K hK => ?_) AllReadyH.nil
            go_simp
            refine (HTD.out wz ((HS0.out.gr HCD.out).gr HZZ.out.ch)).mono ?_
            rintro e w2 ⟨o, V, ho, rfl, hN, hc⟩
            have hx := (hc.block D (blk_lt HZZ.out.cx) (fun f => f)).trans HZZ.out.cx
            obtain ⟨wx, hV⟩ := stPc (optP o) hx (by obtain ⟨A, C, e⟩ := hN.len; exact ⟨_, _, _, e⟩)
            have HFIN := Lib.hid (tofB HCW.out HCD.out HZZ.out ho hN hc hx hV)
            have HS2 := Lib.hid (holds_gr HSZ.out hc)
            have HSX := Lib.hid (holds_set HS2.out hV.ch (by have h1 := HZZ.out.sz; have h2 := World.block_lt_of_cell? _ _ HS.out.1; have h3 := World.block_lt_of_cell? _ _ HS.out.2.1; simp only at h2 h3; omega) (by have h1 := HZZ.out.sz; have h3 := World.block_lt_of_cell? _ _ HS.out.2.1; simp only at h3; omega))
            have HV := Lib.hid hV
            clear ho hN hc hV hx
            dsimp only
            refine hK.out _ _ HS2.out (fun _ => ?_)
            clear hK K
            try simp only [Act.put, List.setIfInBounds_toArray, List.set_cons_zero, List.set_cons_succ]
            refine wpAnyH_take (i := 11) (oi := ⟨some 22, .move (.tmp 33), _, _, _, none⟩) (v := .tuple #[.agg (pcC (optP o) V), .bool o.isSome]) rfl (by kernel_rfl) (by kernel_rfl) (by kernel_rfl) (fun _ _ _ h => h) (Or.inl ⟨by rfl, fun w' hS => ?_⟩) HS2.out ?_
            · clear hS; go_simp
            simp only [Act.put, List.setIfInBounds_toArray, List.set_cons_zero, List.set_cons_succ]
            refine wpAnyH_take (i := 12) (oi := ⟨some 34, .extract (.tmp 22) 0, _, _, _, none⟩) (v := .agg (pcC (optP o) V)) rfl (by kernel_rfl) (by kernel_rfl) (by kernel_rfl) (fun _ _ _ h => h) (Or.inl ⟨by rfl, fun w' hS => ?_⟩) HS2.out ?_
            · clear hS; go_simp
            simp only [Act.put, List.setIfInBounds_toArray, List.set_cons_zero, List.set_cons_succ]
            refine wpAnyH_take (i := 13) (oi := ⟨some 35, .extract (.tmp 22) 1, _, _, _, none⟩) (v := .bool o.isSome) rfl (by kernel_rfl) (by kernel_rfl) (by kernel_rfl) (fun _ _ _ h => h) (Or.inl ⟨by rfl, fun w' hS => ?_⟩) HS2.out ?_
            · clear hS; go_simp
            simp only [Act.put, List.setIfInBounds_toArray, List.set_cons_zero, List.set_cons_succ]
            refine wpAnyH_ready (rs := [15]) (by kernel_rfl) (by simp) ?_
            refine AllReadyH.cons rfl (fun K hK => ?_) AllReadyH.nil
            refine step_storing (o := ⟨none, .store 26 (.tmp 9) (.tmp 34), _, _, _, none⟩) wx rfl 26 (.tmp 9) (.tmp 34) rfl (.agg (pcC (optP o) V)) ⟨D, 0, none⟩ rfl rfl HV.out.st ?_
            refine hK.out _ _ HSX.out (fun _ => ?_)
            clear hK K
            refine wpAnyH_take (i := 16) (oi := ⟨some 10, .assign (.tmp 35), _, _, _, none⟩) (v := .bool o.isSome) rfl (by kernel_rfl) (by kernel_rfl) (by kernel_rfl) (fun _ _ _ h => h) (Or.inl ⟨by rfl, fun w' hS => ?_⟩) HSX.out ?_
            · clear hS; go_simp
            try simp only [Act.put, List.setIfInBounds_toArray, List.set_cons_zero, List.set_cons_succ]
            refine wpAnyH_done (by kernel_rfl) ?_ _
            go_wp2_with fail
            go_meet
            case rel => exact ⟨_, o, V, rfl, rfl, HFIN⟩
        case rest =>
          obtain ⟨D, o, V, rfl, rfl, HF⟩ := hcut
          have HVA := Lib.hid HF.out.var
          have HN2 := Lib.hid (HF.out.row)
          have HCX := Lib.hid (HT.out.ch.trans HF.out.ch)
          have y0 : wc.cell? ⟨D, 0, none⟩ = some (.int .i64 (optP o).seq) := blk_cell HF.out.var
          obtain ⟨Oo, L, hOo, hL, hr⟩ := HT.out.row
          have HR2 := Lib.hid (hr.gr HF.out.ch)
          have HOO := Lib.hid hOo
          have HL := Lib.hid hL
          clear hOo hL hr
          cases o with
          | none =>
            have HS2 := Lib.hid (told_step HOO.out HL.out HF.out.tell (L2 := L) (by simp [atS]) HR2.out HCX.out)
            go_wp2
            go_roundw
            case rel => exact ⟨1, by omega, by go_num, HS2⟩
            case measure => simp [intOf]
          | some p =>
            by_cases hps : p.seq = (s : Int)
            · have hVS : SlV V := by obtain ⟨A, C, e⟩ := HN2.out.len; exact ⟨_, _, _, e⟩
              have hLl : L.length ≤ 2 := by
                have := congrArg List.length HL.out
                rw [List.length_map] at this
                rw [this]
                exact Nat.le_trans (flat_len _ _) (by omega)
              obtain ⟨g, cap, w3, hrun, hr3, hc3⟩ := HR2.out.app kdP_ok (x := ⟨p, V⟩) (elP_ok hVS) (show ByN elP w1 wc ⟨p, V⟩ from ⟨HN2.out, HF.out.byt⟩) (by omega) HCX.out.size
              obtain ⟨A0, C0, hv0⟩ := HR2.out.len
              have HSL := Lib.hid (slice_pc wc p V)
              obtain ⟨ws, hws⟩ : ∃ ws, ws = wc.alloc (.cells (pcC p V) 26) := ⟨_, rfl⟩
              have hws2 : wc.alloc (.cells (elP.f ⟨p, V⟩).toArray kdP.T) = ws := by rw [hws]; rfl
              obtain ⟨X, hX⟩ : ∃ X, X = wc.heap.size := ⟨_, rfl⟩
              rw [hws2, ← hX] at hrun
              rw [← hws, ← hX] at HSL
              have HRUN := Lib.hid hrun
              have HLD := Lib.hid (load_pc HVA.out)
              have HC3 := Lib.hid (HCX.out.new (hc3.mono fun i _ hi => (own_at HR2.out.own hi).1))
              have HS2 := Lib.hid (told_step HOO.out HL.out HF.out.tell (L2 := L ++ [⟨p, V⟩]) (by simp [atS, hps]) hr3 HC3.out)
              subst hv0
              obtain ⟨M, hM⟩ : ∃ M, M = L.length := ⟨_, rfl⟩
              obtain ⟨M1, hM1⟩ : ∃ M1, M1 = L.length + 1 := ⟨_, rfl⟩
              have hps2 : (optP (some p)).seq = (s : Int) := hps
              rw [← hM1] at HRUN HS2
              rw [← hM] at HRUN ⊢
              clear hrun hws hws2 hX hr3 hc3 hVS hLl hM hM1 hps
              go_wp2_with (first
                | ((with_reducible refine wpList_isOp (.load 26 (.tmp 9)) rfl ?_); refine wpList_loading _ rfl 26 (.tmp 9) rfl (.agg (pcC p V)) ⟨D, 0, none⟩ rfl (by exact HLD.out) ?_)
                | ((with_reducible refine wpList_isOp (.buildSlice 102 1 #[(0, .tmp 44)]) rfl ?_); refine wpList_slicing1 _ ws rfl 102 0 1 (.tmp 44) rfl (.agg (pcC p V)) (.slice (some ⟨X, 0, none⟩) 1 1) rfl (by exact HSL.out) ?_)
                | ((with_reducible refine wpList_isOp (.call { callee := .builtin .append, args := #[.tmp 43, .tmp 45], argTypes := #[ 102, 102] }) rfl ?_); refine wpList_appK_of 102 _ rfl (.tmp 43) (.tmp 45) rfl rfl (.slice A0 M C0) (.slice (some ⟨X, 0, none⟩) 1 1) (.slice (some ⟨g, 0, none⟩) M1 cap) w3 rfl rfl (by exact HRUN.out) ?_)
                | fail)
              go_roundw
              case rel => exact ⟨1, by omega, by go_num, HS2⟩
              case measure => simp [intOf]
            · have HS2 := Lib.hid (told_step HOO.out HL.out HF.out.tell (L2 := L) (by simp [atS, hps]) HR2.out HCX.out)
              have t1 : ((optP (some p)).seq == (s : Int)) = false := by simpa [optP] using hps
              clear hps
              go_wp2
              go_roundw
              case rel => exact ⟨1, by omega, by go_num, HS2⟩
              case measure => simp [intOf]
      · rw [show ((1 : Nat) : Int) = 1 from rfl]
        obtain ⟨b, o, A', C', hA, hsl⟩ := (HH.out.gr (HT.out.ch)).slot HQW.out (c := 1) (by decide)
        obtain ⟨O, hO⟩ : ∃ O, O = o + q := ⟨_, rfl⟩
        rw [← hO] at hsl
        obtain ⟨nn, hnn⟩ : ∃ nn, nn = m.N 1 q := ⟨_, rfl⟩
        rw [← hnn] at hsl
        obtain ⟨wd, hwd⟩ : ∃ wd, wd = wr.drew := ⟨_, rfl⟩
        have hcd : Ch (fun _ => False) wr wd := by rw [hwd]; exact (Ch.refl _ wr).drew
        have hX := (HT.out.ch.block H (blk_lt HX.out) (fun f => f)).trans HX.out
        have HS := Lib.hid (show HoldT m b O H A' nn C' wd from holds_gr ⟨hsl.cell, blk_cell hX, blk_cell hX, blk_cell hX, blk_cell hX, blk_cell hX⟩ hcd)
        have HS0 := Lib.hid hsl.row
        have HTD := Lib.hid (fun W (hr : RowV W (.slice A' nn C') nn (m.Z 1 q)) => (rtold_any A' nn C' (m.Z 1 q) m.vol m.g.ge 1 (q : Int) W (by have := HH.out.vol; unfold N64; omega) hr).mono (R' := fun e w2 => ∃ o V, TellsM m s 1 o ∧ e = .returned (.tuple #[.agg (pcC (optP o) V), .bool o.isSome]) ∧ RowN W w2 V (optP o).B.length (Cod.litZ (optP o).B) ∧ Ch (fun _ => False) W w2) fun e w2 ⟨o, V, q1, q2, q3, q4⟩ => ⟨o, V, by rw [hnn, HQE.out] at q1; exact q1, q2, q3, q4⟩)
        have HA := Lib.hid hA
        have HO := Lib.hid hO.symm
        have HWD := Lib.hid hwd
        have HCD := Lib.hid hcd
        have HCW := Lib.hid HT.out.ch
        have i1 : (0 : Int) ≤ (q : Int) := Int.natCast_nonneg _
        have i2 : (q : Int) < (m.g.W : Int) := by have := HQW.out; omega
        have i3 : q < m.g.W := HQW.out
        have hix := index_1 (m.A 0) (m.A 1) m.g.W m.g.W (m.C 0) (m.C 1) wr
        clear hA hsl hO hnn hwd hcd hX hlt hk
        go_upto_region 6 with fail
        go_cut [9, 10] (fun v u wx => ∃ D o V, v = .pointer (some ⟨D, 0, none⟩) ∧ u = .bool o.isSome ∧ Hid (ToF m s 1 w1 wr wx D o V))
        case first =>
          refine wp_region_held (S := (fun w' => w'.cell? ⟨b, O, none⟩ = some (.slice A' nn C') ∧ w'.cell? ⟨H, 0, none⟩ = some (.int .i64 m.vol) ∧ w'.cell? ⟨H, 1, none⟩ = some (.int .i64 (m.g.W : Int)) ∧ w'.cell? ⟨H, 2, none⟩ = some (.int .i64 (m.g.S : Int)) ∧ w'.cell? ⟨H, 3, none⟩ = some (.int .i64 (m.g.K : Int)) ∧ w'.cell? ⟨H, 4, none⟩ = some (.int .i64 (m.g.M : Int)))) (by kernel_rfl) ?_
          change wpAnyH _ _ _ _ _ _ _ _ (World.drew _)
          rw [← HWD.out]
          refine wpAnyH_take (i := 0) (oi := ⟨some 23, .move (.tmp 8), _, _, _, none⟩) (v := .slice (m.A 1) m.g.W (m.C 1)) rfl (by kernel_rfl) (by kernel_rfl) (by kernel_rfl) (fun _ _ _ h => h) (Or.inl ⟨by rfl, fun w' hS => ?_⟩) HS.out ?_
          · clear hS; go_simp
          simp only [Act.put, List.setIfInBounds_toArray, List.set_cons_zero, List.set_cons_succ]
          refine wpAnyH_take (i := 1) (oi := ⟨some 24, .move (.tmp 5), _, _, _, none⟩) (v := .int .i64 (q : Int)) rfl (by kernel_rfl) (by kernel_rfl) (by kernel_rfl) (fun _ _ _ h => h) (Or.inl ⟨by rfl, fun w' hS => ?_⟩) HS.out ?_
          · clear hS; go_simp
          simp only [Act.put, List.setIfInBounds_toArray, List.set_cons_zero, List.set_cons_succ]
          refine wpAnyH_take (i := 2) (oi := ⟨some 25, .indexAddr 37 (.tmp 23) (.tmp 24), _, _, _, none⟩) (v := .pointer (some ⟨b, O, none⟩)) rfl (by kernel_rfl) (by kernel_rfl) (by kernel_rfl) (fun _ _ _ h => h) (Or.inl ⟨by rfl, fun w' hS => ?_⟩) HS.out ?_
          · clear hS; have hA := HA.out; have hO := HO.out; go_simp
          simp only [Act.put, List.setIfInBounds_toArray, List.set_cons_zero, List.set_cons_succ]
          refine wpAnyH_take (i := 3) (oi := ⟨some 26, .load 24 (.tmp 25), _, _, _, none⟩) (v := .slice A' nn C') rfl (by kernel_rfl) (by kernel_rfl) (by kernel_rfl) (fun _ _ _ h => h) (Or.inl ⟨by rfl, fun w' hS => ?_⟩) HS.out ?_
          · obtain ⟨s0, s1, s2, s3, s4, s5⟩ := hS; go_simp
          simp only [Act.put, List.setIfInBounds_toArray, List.set_cons_zero, List.set_cons_succ]
          refine wpAnyH_take (i := 4) (oi := ⟨some 27, .fieldAddr 94 (.tmp 2) 0, _, _, _, none⟩) (v := .pointer (some ⟨H, 0, none⟩)) rfl (by kernel_rfl) (by kernel_rfl) (by kernel_rfl) (fun _ _ _ h => h) (Or.inl ⟨by rfl, fun w' hS => ?_⟩) HS.out ?_
          · clear hS; go_simp
          simp only [Act.put, List.setIfInBounds_toArray, List.set_cons_zero, List.set_cons_succ]
          refine wpAnyH_take (i := 5) (oi := ⟨some 28, .load 3 (.tmp 27), _, _, _, none⟩) (v := .int .i64 m.vol) rfl (by kernel_rfl) (by kernel_rfl) (by kernel_rfl) (fun _ _ _ h => h) (Or.inl ⟨by rfl, fun w' hS => ?_⟩) HS.out ?_
          · obtain ⟨s0, s1, s2, s3, s4, s5⟩ := hS; go_simp
          simp only [Act.put, List.setIfInBounds_toArray, List.set_cons_zero, List.set_cons_succ]
          refine wpAnyH_take (i := 6) (oi := ⟨some 29, .fieldAddr 94 (.tmp 2) 1, _, _, _, none⟩) (v := .pointer (some ⟨H, 1, none⟩)) rfl (by kernel_rfl) (by kernel_rfl) (by kernel_rfl) (fun _ _ _ h => h) (Or.inl ⟨by rfl, fun w' hS => ?_⟩) HS.out ?_
          · clear hS; go_simp
          simp only [Act.put, List.setIfInBounds_toArray, List.set_cons_zero, List.set_cons_succ]
          refine wpAnyH_take (i := 7) (oi := ⟨some 30, .load 23 (.tmp 29), _, _, _, none⟩) (v := .agg (geC m.g.ge)) rfl (by kernel_rfl) (by kernel_rfl) (by kernel_rfl) (fun _ _ _ h => h) (Or.inl ⟨by rfl, fun w' hS => ?_⟩) HS.out ?_
          · obtain ⟨s0, s1, s2, s3, s4, s5⟩ := hS; go_simp; rfl
          simp only [Act.put, List.setIfInBounds_toArray, List.set_cons_zero, List.set_cons_succ]
          refine wpAnyH_take (i := 8) (oi := ⟨some 31, .move (.tmp 7), _, _, _, none⟩) (v := .int .i64 1) rfl (by kernel_rfl) (by kernel_rfl) (by kernel_rfl) (fun _ _ _ h => h) (Or.inl ⟨by rfl, fun w' hS => ?_⟩) HS.out ?_
          · clear hS; go_simp
          simp only [Act.put, List.setIfInBounds_toArray, List.set_cons_zero, List.set_cons_succ]
          refine wpAnyH_take (i := 9) (oi := ⟨some 32, .move (.tmp 5), _, _, _, none⟩) (v := .int .i64 (q : Int)) rfl (by kernel_rfl) (by kernel_rfl) (by kernel_rfl) (fun _ _ _ h => h) (Or.inl ⟨by rfl, fun w' hS => ?_⟩) HS.out ?_
          · clear hS; go_simp
          simp only [Act.put, List.setIfInBounds_toArray, List.set_cons_zero, List.set_cons_succ]
          refine wpAnyH_ready (rs := [10, 14]) (by kernel_rfl) (by simp) ?_
          refine AllReadyH.cons rfl (fun K hK => ?_) (AllReadyH.cons rfl (fun K hK => ?_) AllReadyH.nil)
          · go_simp
            refine (HTD.out wd (HS0.out.gr HCD.out)).mono ?_
            rintro e w2 ⟨o, V, ho, rfl, hN, hc⟩
            obtain ⟨wz, wx, D, hV⟩ := varPc (optP o) (by obtain ⟨A, C, e⟩ := hN.len; exact ⟨_, _, _, e⟩) w2
            have HFIN := Lib.hid (tofA HCW.out HCD.out ho hN hc hV)
            have HS2 := Lib.hid (holds_gr HS.out hc)
            have HSZ := Lib.hid (holds_gr HS2.out ((Ch.refl (fun _ => False) w2).alloc (pcC pn0 (.slice none 0 0)) 26))
            have HSX := Lib.hid (holds_gr HS2.out hV.ch)
            have HZA := Lib.hid hV.al
            rw [hV.al] at HSZ
            have HV := Lib.hid hV
            clear ho hN hc hV
            dsimp only
            refine hK.out _ _ HS2.out (fun _ => ?_)
            clear hK K
            try simp only [Act.put, List.setIfInBounds_toArray, List.set_cons_zero, List.set_cons_succ]
            refine wpAnyH_take (i := 11) (oi := ⟨some 22, .move (.tmp 33), _, _, _, none⟩) (v := .tuple #[.agg (pcC (optP o) V), .bool o.isSome]) rfl (by kernel_rfl) (by kernel_rfl) (by kernel_rfl) (fun _ _ _ h => h) (Or.inl ⟨by rfl, fun w' hS => ?_⟩) HS2.out ?_
            · clear hS; go_simp
            simp only [Act.put, List.setIfInBounds_toArray, List.set_cons_zero, List.set_cons_succ]
            refine wpAnyH_take (i := 12) (oi := ⟨some 34, .extract (.tmp 22) 0, _, _, _, none⟩) (v := .agg (pcC (optP o) V)) rfl (by kernel_rfl) (by kernel_rfl) (by kernel_rfl) (fun _ _ _ h => h) (Or.inl ⟨by rfl, fun w' hS => ?_⟩) HS2.out ?_
            · clear hS; go_simp
            simp only [Act.put, List.setIfInBounds_toArray, List.set_cons_zero, List.set_cons_succ]
            refine wpAnyH_take (i := 13) (oi := ⟨some 35, .extract (.tmp 22) 1, _, _, _, none⟩) (v := .bool o.isSome) rfl (by kernel_rfl) (by kernel_rfl) (by kernel_rfl) (fun _ _ _ h => h) (Or.inl ⟨by rfl, fun w' hS => ?_⟩) HS2.out ?_
            · clear hS; go_simp
            simp only [Act.put, List.setIfInBounds_toArray, List.set_cons_zero, List.set_cons_succ]
            refine wpAnyH_ready (rs := [14]) (by kernel_rfl) (by simp) ?_
            refine AllReadyH.cons rfl (fun K hK => ?_) AllReadyH.nil
            refine step_making (o := ⟨some 9, .alloc 26, _, _, _, none⟩) wz rfl 26 rfl (pcC pn0 (.slice none 0 0)) D (zero_pc _) HV.out.sz HV.out.al ?_
            refine hK.out _ _ HSZ.out (fun _ => ?_)
            clear hK K
            try simp only [Act.put, List.setIfInBounds_toArray, List.set_cons_zero, List.set_cons_succ]
            refine wpAnyH_ready (rs := [15]) (by kernel_rfl) (by simp) ?_
            refine AllReadyH.cons rfl (fun K hK => ?_) AllReadyH.nil
            refine step_storing (o := ⟨none, .store 26 (.tmp 9) (.tmp 34), _, _, _, none⟩) wx rfl 26 (.tmp 9) (.tmp 34) rfl (.agg (pcC (optP o) V)) ⟨D, 0, none⟩ rfl rfl HV.out.st ?_
            refine hK.out _ _ HSX.out (fun _ => ?_)
            clear hK K
            refine wpAnyH_take (i := 16) (oi := ⟨some 10, .assign (.tmp 35), _, _, _, none⟩) (v := .bool o.isSome) rfl (by kernel_rfl) (by kernel_rfl) (by kernel_rfl) (fun _ _ _ h => h) (Or.inl ⟨by rfl, fun w' hS => ?_⟩) HSX.out ?_
            · clear hS; go_simp
            try simp only [Act.put, List.setIfInBounds_toArray, List.set_cons_zero, List.set_cons_succ]
            refine wpAnyH_done (by kernel_rfl) ?_ _
            go_wp2_with fail
            go_meet
            case rel => exact ⟨_, o, V, rfl, rfl, HFIN⟩
          · obtain ⟨wz, D, hZ⟩ := zePc wd
            have HZZ := Lib.hid hZ
            have HSZ := Lib.hid (holds_gr HS.out hZ.ch)
            clear hZ
            refine step_making (o := ⟨some 9, .alloc 26, _, _, _, none⟩) wz rfl 26 rfl (pcC pn0 (.slice none 0 0)) D (zero_pc _) HZZ.out.sz HZZ.out.al ?_
            refine hK.out _ _ HSZ.out (fun _ => ?_)
            clear hK K
            try simp only [Act.put, List.setIfInBounds_toArray, List.set_cons_zero, List.set_cons_succ]
            refine wpAnyH_ready (rs := [10]) (by kernel_rfl) (by simp) ?_
            refine AllReadyH.cons rfl (fun K hK => ?_) AllReadyH.nil
            go_simp
            refine (HTD.out wz ((HS0.out.gr HCD.out).gr HZZ.out.ch)).mono ?_
            rintro e w2 ⟨o, V, ho, rfl, hN, hc⟩
            have hx := (hc.block D (blk_lt HZZ.out.cx) (fun f => f)).trans HZZ.out.cx
            obtain ⟨wx, hV⟩ := stPc (optP o) hx (by obtain ⟨A, C, e⟩ := hN.len; exact ⟨_, _, _, e⟩)
            have HFIN := Lib.hid (tofB HCW.out HCD.out HZZ.out ho hN hc hx hV)
            have HS2 := Lib.hid (holds_gr HSZ.out hc)
            have HSX := Lib.hid (holds_set HS2.out hV.ch (by have h1 := HZZ.out.sz; have h2 := World.block_lt_of_cell? _ _ HS.out.1; have h3 := World.block_lt_of_cell? _ _ HS.out.2.1; simp only at h2 h3; omega) (by have h1 := HZZ.out.sz; have h3 := World.block_lt_of_cell? _ _ HS.out.2.1; simp only at h3; omega))
            have HV := Lib.hid hV
            clear ho hN hc hV hx
            dsimp only
            refine hK.out _ _ HS2.out (fun _ => ?_)
            clear hK K
            try simp only [Act.put, List.setIfInBounds_toArray, List.set_cons_zero, List.set_cons_succ]
            refine wpAnyH_take (i := 11) (oi := ⟨some 22, .move (.tmp 33), _, _, _, none⟩) (v := .tuple #[.agg (pcC (optP o) V), .bool o.isSome]) rfl (by kernel_rfl) (by kernel_rfl) (by kernel_rfl) (fun _ _ _ h => h) (Or.inl ⟨by rfl, fun w' hS => ?_⟩) HS2.out ?_
            · clear hS; go_simp
            simp only [Act.put, List.setIfInBounds_toArray, List.set_cons_zero, List.set_cons_succ]
            refine wpAnyH_take (i := 12) (oi := ⟨some 34, .extract (.tmp 22) 0, _, _, _, none⟩) (v := .agg (pcC (optP o) V)) rfl (by kernel_rfl) (by kernel_rfl) (by kernel_rfl) (fun _ _ _ h => h) (Or.inl ⟨by rfl, fun w' hS => ?_⟩) HS2.out ?_
            · clear hS; go_simp
            simp only [Act.put, List.setIfInBounds_toArray, List.set_cons_zero, List.set_cons_succ]
            refine wpAnyH_take (i := 13) (oi := ⟨some 35, .extract (.tmp 22) 1, _, _, _, none⟩) (v := .bool o.isSome) rfl (by kernel_rfl) (by kernel_rfl) (by kernel_rfl) (fun _ _ _ h => h) (Or.inl ⟨by rfl, fun w' hS => ?_⟩) HS2.out ?_
            · clear hS; go_simp
            simp only [Act.put, List.setIfInBounds_toArray, List.set_cons_zero, List.set_cons_succ]
            refine wpAnyH_ready (rs := [15]) (by kernel_rfl) (by simp) ?_
            refine AllReadyH.cons rfl (fun K hK => ?_) AllReadyH.nil
            refine step_storing (o := ⟨none, .store 26 (.tmp 9) (.tmp 34), _, _, _, none⟩) wx rfl 26 (.tmp 9) (.tmp 34) rfl (.agg (pcC (optP o) V)) ⟨D, 0, none⟩ rfl rfl HV.out.st ?_
            refine hK.out _ _ HSX.out (fun _ => ?_)
            clear hK K
            refine wpAnyH_take (i := 16) (oi := ⟨some 10, .assign (.tmp 35), _, _, _, none⟩) (v := .bool o.isSome) rfl (by kernel_rfl) (by kernel_rfl) (by kernel_rfl) (fun _ _ _ h => h) (Or.inl ⟨by rfl, fun w' hS => ?_⟩) HSX.out ?_
            · clear hS; go_simp
            try simp only [Act.put, List.setIfInBounds_toArray, List.set_cons_zero, List.set_cons_succ]
            refine wpAnyH_done (by kernel_rfl) ?_ _
            go_wp2_with fail
            go_meet
            case rel => exact ⟨_, o, V, rfl, rfl, HFIN⟩
        case rest =>
          obtain ⟨D, o, V, rfl, rfl, HF⟩ := hcut
          have HVA := Lib.hid HF.out.var
          have HN2 := Lib.hid (HF.out.row)
          have HCX := Lib.hid (HT.out.ch.trans HF.out.ch)
          have y0 : wc.cell? ⟨D, 0, none⟩ = some (.int .i64 (optP o).seq) := blk_cell HF.out.var
          obtain ⟨Oo, L, hOo, hL, hr⟩ := HT.out.row
          have HR2 := Lib.hid (hr.gr HF.out.ch)
          have HOO := Lib.hid hOo
          have HL := Lib.hid hL
          clear hOo hL hr
          cases o with
          | none =>
            have HS2 := Lib.hid (told_step HOO.out HL.out HF.out.tell (L2 := L) (by simp [atS]) HR2.out HCX.out)
            go_wp2
            go_roundw
            case rel => exact ⟨2, by omega, by go_num, HS2⟩
            case measure => simp [intOf]
          | some p =>
            by_cases hps : p.seq = (s : Int)
            · have hVS : SlV V := by obtain ⟨A, C, e⟩ := HN2.out.len; exact ⟨_, _, _, e⟩
              have hLl : L.length ≤ 2 := by
                have := congrArg List.length HL.out
                rw [List.length_map] at this
                rw [this]
                exact Nat.le_trans (flat_len _ _) (by omega)
              obtain ⟨g, cap, w3, hrun, hr3, hc3⟩ := HR2.out.app kdP_ok (x := ⟨p, V⟩) (elP_ok hVS) (show ByN elP w1 wc ⟨p, V⟩ from ⟨HN2.out, HF.out.byt⟩) (by omega) HCX.out.size
              obtain ⟨A0, C0, hv0⟩ := HR2.out.len
              have HSL := Lib.hid (slice_pc wc p V)
              obtain ⟨ws, hws⟩ : ∃ ws, ws = wc.alloc (.cells (pcC p V) 26) := ⟨_, rfl⟩
              have hws2 : wc.alloc (.cells (elP.f ⟨p, V⟩).toArray kdP.T) = ws := by rw [hws]; rfl
              obtain ⟨X, hX⟩ : ∃ X, X = wc.heap.size := ⟨_, rfl⟩
              rw [hws2, ← hX] at hrun
              rw [← hws, ← hX] at HSL
              have HRUN := Lib.hid hrun
              have HLD := Lib.hid (load_pc HVA.out)
              have HC3 := Lib.hid (HCX.out.new (hc3.mono fun i _ hi => (own_at HR2.out.own hi).1))
              have HS2 := Lib.hid (told_step HOO.out HL.out HF.out.tell (L2 := L ++ [⟨p, V⟩]) (by simp [atS, hps]) hr3 HC3.out)
              subst hv0
              obtain ⟨M, hM⟩ : ∃ M, M = L.length := ⟨_, rfl⟩
              obtain ⟨M1, hM1⟩ : ∃ M1, M1 = L.length + 1 := ⟨_, rfl⟩
              have hps2 : (optP (some p)).seq = (s : Int) := hps
              rw [← hM1] at HRUN HS2
              rw [← hM] at HRUN ⊢
              clear hrun hws hws2 hX hr3 hc3 hVS hLl hM hM1 hps
              go_wp2_with (first
                | ((with_reducible refine wpList_isOp (.load 26 (.tmp 9)) rfl ?_); refine wpList_loading _ rfl 26 (.tmp 9) rfl (.agg (pcC p V)) ⟨D, 0, none⟩ rfl (by exact HLD.out) ?_)
                | ((with_reducible refine wpList_isOp (.buildSlice 102 1 #[(0, .tmp 44)]) rfl ?_); refine wpList_slicing1 _ ws rfl 102 0 1 (.tmp 44) rfl (.agg (pcC p V)) (.slice (some ⟨X, 0, none⟩) 1 1) rfl (by exact HSL.out) ?_)
                | ((with_reducible refine wpList_isOp (.call { callee := .builtin .append, args := #[.tmp 43, .tmp 45], argTypes := #[ 102, 102] }) rfl ?_); refine wpList_appK_of 102 _ rfl (.tmp 43) (.tmp 45) rfl rfl (.slice A0 M C0) (.slice (some ⟨X, 0, none⟩) 1 1) (.slice (some ⟨g, 0, none⟩) M1 cap) w3 rfl rfl (by exact HRUN.out) ?_)
                | fail)
              go_roundw
              case rel => exact ⟨2, by omega, by go_num, HS2⟩
              case measure => simp [intOf]
            · have HS2 := Lib.hid (told_step HOO.out HL.out HF.out.tell (L2 := L) (by simp [atS, hps]) HR2.out HCX.out)
              have t1 : ((optP (some p)).seq == (s : Int)) = false := by simpa [optP] using hps
              clear hps
              go_wp2
              go_roundw
              case rel => exact ⟨2, by omega, by go_num, HS2⟩
              case measure => simp [intOf]
    · obtain rfl : k = 2 := by omega
      have HFF := Lib.hid (HFI.out w1 wr _ HCR.out HT.out)
      clear hlt hk
      rw [show ((2 : Nat) : Int) = 2 from rfl]
      go_wp2_with (go_at_call 123; refine HFF.out.mono ?_; rintro e w2 ⟨rfl, hr⟩)
      go_ret
      exact ⟨_, rfl, hr⟩
end Go.Proofs.YteleknojohnlbaaGreat
