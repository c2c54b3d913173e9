/-
  ring's mirrors: what they tell of a number, in order; whether a slot is clean, walked.
-/
import Derived.Test.YteleknojohnlbaaGreatMc25
namespace Go.Proofs.YteleknojohnlbaaGreat
open Go.RowKit
set_option linter.unusedVariables false
set_option maxRecDepth 100000
def ToldR (m : Mi) (s : Nat) (w w' : World) (v : Value) : Prop :=
  ∃ A C L o0 o1, TellsM m s 0 o0 ∧ TellsM m s 1 o1 ∧ L.map Pv.p = candR (atS o0 (s : Int)) (atS o1 (s : Int)) ∧ v = .slice A L.length C ∧ RwV kdP elP w' A C L ∧ (∀ x ∈ L, ByN elP w w' x) ∧ Ch (fun _ => False) w w' ∧ (∀ b o, A = some ⟨b, o, none⟩ → w.heap.size ≤ b)
theorem two_cand {c0 c1 : Option Pn} {x y : Pn} (h : [x, y] = c0.toList ++ c1.toList) : c0 = some x ∧ c1 = some y := by
  cases c0 <;> cases c1 <;> simp at h
  obtain ⟨h1, h2⟩ := h
  exact ⟨by rw [h1], by rw [h2]⟩
theorem few_cand {c0 c1 : Option Pn} {L : List Pn} (h : L = c0.toList ++ c1.toList) (hl : L.length ≤ 1) : L = candR c0 c1 := by
  cases c0 <;> cases c1 <;> simp at h <;> subst h <;> first | rfl | (simp at hl)
theorem two_rw {w : World} {g C : Nat} {x y : Pv} (hC : 2 ≤ C) (h : Two w g x y) (hx : RowV w x.V x.p.B.length (Cod.litZ x.p.B) ∧ ∀ c ∈ x.p.B, c < 256) (hy : RowV w y.V y.p.B.length (Cod.litZ y.p.B) ∧ ∀ c ∈ y.p.B, c < 256) : RwV kdP elP w (some ⟨g, 0, none⟩) C [x, y] :=
  ⟨by simp, hC, fun _ => ⟨g, 0, rfl, fun i z hz j u hu => by
    match i, hz with
    | 0, hz =>
      simp at hz
      subst hz
      have := h.r0 j u hu
      simpa using this
    | 1, hz =>
      simp at hz
      subst hz
      have := h.r7 j u hu
      rw [show 0 + 1 * kdP.k + j = 7 + j from by show 0 + 1 * 7 + j = _; omega]
      exact this⟩, fun z hz => by
    rcases List.mem_cons.1 hz with rfl | hz
    · exact hx
    · rw [List.mem_singleton.1 hz]; exact hy⟩
theorem mtold_any (m : Mi) (s : Nat) (w : World) (h : MiIs w m) (hs : s ≤ 4294967807) : Calls Tryz.prog 90 #[.agg (miC m), .int .i64 (s : Int)] w fun e w' => ∃ v, e = .returned v ∧ ToldR m s w w' v := by
  refine mtold_st m s w h hs (fun w' v => ToldR m s w w' v) ?_
  rintro w1 wr v hw ⟨⟨O, L, hO, hL, hr⟩, hc⟩
  rw [show List.range 2 = [0, 1] from rfl, List.flatMap_cons, List.flatMap_cons, List.flatMap_nil, List.append_nil] at hL
  have hLl : L.length ≤ 2 := by
    have := congrArg List.length hL
    rw [List.length_map, List.length_append] at this
    have h0 : (atS (O 0) (s : Int)).toList.length ≤ 1 := by cases atS (O 0) (s : Int) <;> simp
    have h1 : (atS (O 1) (s : Int)).toList.length ≤ 1 := by cases atS (O 1) (s : Int) <;> simp
    omega
  obtain ⟨A, C, rfl⟩ := hr.len
  have hown : ∀ b o, A = some ⟨b, o, none⟩ → w.heap.size ≤ b := fun b o e => by
    rcases hr.own.2 with ⟨e2, _⟩ | ⟨g, cap, cur, e2, hb, _⟩
    · injection e2 with e3; rw [e] at e3; cases e3
    · injection e2 with e3; rw [e] at e3; injection e3 with e3; injection e3 with e4; rw [e4]; exact Nat.le_trans hw.size hb
  by_cases hq : L.length ≤ 1
  · refine stable_few A L.length C undef hLl wr _ ((insSort_few A L.length C _ hq wr).mono ?_)
    rintro e w2 ⟨rfl, rfl⟩
    exact ⟨rfl, A, C, L, O 0, O 1, hO 0 (by omega), hO 1 (by omega), few_cand hL (by rw [List.length_map]; exact hq), rfl, hr.read (by omega), fun x hx => (hr.rows x hx).low hw.size, hw.trans hc, hown⟩
  · obtain ⟨x, y, rfl⟩ : ∃ x y, L = [x, y] := by
      match L, hLl, hq with
      | [], _, hq => exact absurd (by simp) hq
      | [x], _, hq => exact absurd (by simp) hq
      | [x, y], _, _ => exact ⟨x, y, rfl⟩
      | _ :: _ :: _ :: _, h, _ => simp at h
    obtain ⟨e0, e1⟩ := two_cand hL
    have hx : x ∈ [x, y] := List.mem_cons_self ..
    have hy : y ∈ [x, y] := List.mem_cons_of_mem _ (List.mem_cons_self ..)
    have bx := hr.rows x hx
    have by' := hr.rows y hy
    have sx : SlV x.V := by obtain ⟨A, C, e⟩ := bx.row.len; exact ⟨_, _, _, e⟩
    have sy : SlV y.V := by obtain ⟨A, C, e⟩ := by'.row.len; exact ⟨_, _, _, e⟩
    rcases id hr.own.2 with ⟨_, q⟩ | ⟨g, cap, cur, e, hb, hg, _⟩
    · simp at q
    · injection e with e _ e2
      subst e
      have hrd := hr.read (by omega)
      have hC := hrd.cap
      obtain ⟨b, o, eA, hcl⟩ := hrd.at' (by simp)
      injection eA with eA
      injection eA with eA1 eA2
      subst eA1
      subst eA2
      have h2 : Two wr g x y := two_of (fun j u hu => by have := hcl 0 x rfl j u hu; simpa using this) (fun j u hu => by
        have := hcl 1 y rfl j u hu
        rw [show 0 + 1 * kdP.k + j = 7 + j from by show 0 + 1 * 7 + j = _; omega] at this
        exact this)
      refine stable_few (some ⟨g, 0, none⟩) 2 C undef (Nat.le_refl 2) wr _ ((insSort_two g C x y wr h2 sx sy cur hg).mono ?_)
      rintro e w2 ⟨rfl, hc2, hs2⟩
      have bx2 := bx.set hc2 hg (by decide)
      have by2 := by'.set hc2 hg (by decide)
      have hch : Ch (fun _ => False) w w2 := (hw.trans hc).new (hc2.mono fun i _ hi => by rw [hi]; exact Nat.le_trans hw.size hb)
      refine ⟨rfl, some ⟨g, 0, none⟩, C, (if x.p.ep < y.p.ep then [y, x] else [x, y]), O 0, O 1, hO 0 (by omega), hO 1 (by omega), ?_, ?_, ?_, ?_, hch, fun b o e => hown b o e⟩
      · rw [e0, e1]
        show _ = if x.p.ep < y.p.ep then [y.p, x.p] else [x.p, y.p]
        split <;> rfl
      · split <;> rfl
      · by_cases q : x.p.ep < y.p.ep
        · rw [if_pos q] at hs2 ⊢
          exact two_rw hC hs2 ⟨by2.row.row, by2.byt⟩ ⟨bx2.row.row, bx2.byt⟩
        · rw [if_neg q] at hs2 ⊢
          exact two_rw hC hs2 ⟨bx2.row.row, bx2.byt⟩ ⟨by2.row.row, by2.byt⟩
      · intro z hz
        have : z = x ∨ z = y := by
          by_cases q : x.p.ep < y.p.ep
          · rw [if_pos q] at hz; simp at hz; exact hz.symm
          · rw [if_neg q] at hz; simp at hz; exact hz
        rcases this with rfl | rfl
        · exact bx2.low hw.size
        · exact by2.low hw.size
def cleanB (n : Nat) (z : Nat → Nat) (vol adr : Int) : Bool := opensB n z && (decide ((readB undef z).vol = vol) && decide ((readB undef z).addr = adr))
def cleanM (m : Mi) (q : Nat) (c : Nat) : Bool := cleanB (m.N c q) (m.Z c q) m.vol (addrR m.g.ge (c : Int) (q : Int))
theorem clean_no {n : Nat} {z : Nat → Nat} {vol adr : Int} (h : opensB n z = false) : cleanB n z vol adr = false := by unfold cleanB; rw [h]; rfl
theorem clean_vol {n : Nat} {z : Nat → Nat} {vol adr : Int} (h : ¬ (readB undef z).vol = vol) : cleanB n z vol adr = false := by unfold cleanB; rw [decide_eq_false h, Bool.false_and, Bool.and_false]
theorem clean_adr {n : Nat} {z : Nat → Nat} {vol adr : Int} (h : ¬ (readB undef z).addr = adr) : cleanB n z vol adr = false := by unfold cleanB; rw [decide_eq_false h, Bool.and_false, Bool.and_false]
theorem clean_yes {n : Nat} {z : Nat → Nat} {vol adr : Int} (h : opensB n z = true) (h2 : (readB undef z).vol = vol) (h3 : (readB undef z).addr = adr) : cleanB n z vol adr = true := by unfold cleanB; rw [h, decide_eq_true h2, decide_eq_true h3]; rfl
theorem clean_tells {n : Nat} {z : Nat → Nat} {vol : Int} {g : Ge} {mir slot : Int} {p : Pn} (h : TellsR n z vol g mir slot p) : cleanB n z vol (addrR g mir slot) = true := by
  have s := h.back undef
  exact clean_yes h.opens s.vol (by rw [← h.slot]; exact s.addr)
theorem wpList_runs {P : Program} {ops : Array Oper} {rest : List Oper} {o : Oper} {a : Act} {Q : Exit → Act → World → Prop} (w w' : World) (v : Value) (hgd : o.guard = none) (hr : (execOp a.eval o).run P w = .ok (.value v) w') (h : wpList P ops Q rest (a.put o.dst v) w') : wpList P ops Q (o :: rest) a w := by
  refine wpList_plain hgd fun _ hK => ?_
  unfold Oper.wp
  rw [hr]
  exact hK _ _ h
def HoldC (m : Mi) (D H : Nat) (y : Bk) (w : World) : Prop := (fun w' => w'.cell? ⟨D, 1, none⟩ = some (.int .i64 y.vol) ∧ w'.cell? ⟨D, 2, none⟩ = some (.int .i64 y.addr) ∧ w'.cell? ⟨H, 0, none⟩ = some (.int .i64 m.vol) ∧ w'.cell? ⟨H, 1, none⟩ = some (.int .i64 (m.g.W : Int)) ∧ w'.cell? ⟨H, 2, none⟩ = some (.int .i64 (m.g.S : Int)) ∧ w'.cell? ⟨H, 3, none⟩ = some (.int .i64 (m.g.K : Int)) ∧ w'.cell? ⟨H, 4, none⟩ = some (.int .i64 (m.g.M : Int))) w
theorem HoldC.all {m : Mi} {D H : Nat} {y : Bk} {w : World} (h : HoldC m D H y w) : (fun w' => w'.cell? ⟨D, 1, none⟩ = some (.int .i64 y.vol) ∧ w'.cell? ⟨D, 2, none⟩ = some (.int .i64 y.addr) ∧ w'.cell? ⟨H, 0, none⟩ = some (.int .i64 m.vol) ∧ w'.cell? ⟨H, 1, none⟩ = some (.int .i64 (m.g.W : Int)) ∧ w'.cell? ⟨H, 2, none⟩ = some (.int .i64 (m.g.S : Int)) ∧ w'.cell? ⟨H, 3, none⟩ = some (.int .i64 (m.g.K : Int)) ∧ w'.cell? ⟨H, 4, none⟩ = some (.int .i64 (m.g.M : Int))) w := h
theorem holdC_gr {m : Mi} {D H : Nat} {y : Bk} {w w' : World} (h : HoldC m D H y w) (k : Ch (fun _ => False) w w') : HoldC m D H y w' := by
  obtain ⟨s0, s1, s2, s3, s4, s5, s6⟩ := h
  exact ⟨k.cell s0 (fun f => f), k.cell s1 (fun f => f), k.cell s2 (fun f => f), k.cell s3 (fun f => f), k.cell s4 (fun f => f), k.cell s5 (fun f => f), k.cell s6 (fun f => f)⟩
set_option maxHeartbeats 25600000 in
theorem mclean_any (m : Mi) (q : Nat) (w : World) (h : MiIs w m) (hq : q < m.g.W) : Calls Tryz.prog 93 #[.agg (miC m), .int .i64 (q : Int)] w (Ans (.bool (cleanM m q 0 || cleanM m q 1)) w) := by
  obtain ⟨w1, H, hR⟩ := boxR w (miC m) 94
  have x0 : w1.cell? ⟨H, 0, none⟩ = some (.int .i64 m.vol) := blk_cell hR.cx
  have x5 : w1.cell? ⟨H, 5, none⟩ = some (.slice (m.A 0) m.g.W (m.C 0)) := blk_cell hR.cx
  have x6 : w1.cell? ⟨H, 6, none⟩ = some (.slice (m.A 1) m.g.W (m.C 1)) := blk_cell hR.cx
  have HX := Lib.hid hR.cx
  have HR := Lib.hid hR
  have HH := Lib.hid (h.gr hR.ch)
  have HQW := Lib.hid hq
  clear hR h hq
  go_enter Tryz.func93, Tryz.ntmps93
  go_wp2_with (first | ((with_reducible refine wpList_isOp (.box 94 (.tmp 0)) rfl ?_); refine wpList_boxing _ w1 rfl 94 (.tmp 0) rfl (miC m) H rfl (by exact HR.out.sz) (by exact HR.out.al) ?_))
  clear x0 x5 x6
  go_loopw [11] (fun i wr => ∃ k : Nat, k ≤ 2 ∧ i = .int .i64 k ∧ Hid (Ch (fun _ => False) w1 wr) ∧ Hid (∀ c, c < k → cleanM m q c = false)) (fun i _ => 2 - (intOf i).toNat)
  case atStart => exact ⟨0, by omega, rfl, Lib.hid (Ch.refl _ w1), Lib.hid fun c hc => absurd hc (Nat.not_lt_zero c)⟩
  case round =>
    obtain ⟨k, hk, rfl, HC, HB⟩ := hrel
    by_cases hlt : k < 2
    · rcases (show k = 0 ∨ k = 1 by omega) with rfl | rfl
      · rw [show ((0 : Nat) : Int) = 0 from rfl]
        obtain ⟨b, o, A', C', hA, hsl⟩ := (HH.out.gr HC.out).slot HQW.out (c := 0) (by decide)
        obtain ⟨O, hO⟩ : ∃ O, O = o + q := ⟨_, rfl⟩
        rw [← hO] at hsl
        obtain ⟨nn, hnn⟩ : ∃ nn, nn = m.N 0 q := ⟨_, rfl⟩
        obtain ⟨z, hz⟩ : ∃ z, z = m.Z 0 q := ⟨_, rfl⟩
        rw [← hnn, ← hz] at hsl
        have c1 := hsl.cell
        have i1 : (0 : Int) ≤ (q : Int) := Int.natCast_nonneg _
        have i2 : (q : Int) < (m.g.W : Int) := by have := HQW.out; omega
        have HE := Lib.hid (show cleanM m q 0 = cleanB nn z m.vol (addrR m.g.ge 0 (q : Int)) by rw [hnn, hz]; rfl)
        have hix := index_0 (m.A 0) (m.A 1) m.g.W m.g.W (m.C 0) (m.C 1) wr
        have HOP := Lib.hid (bopen_any A' nn C' z wr hsl.row)
        have HA := Lib.hid hA
        have HO := Lib.hid hO.symm
        have hX := (HC.out.block H (blk_lt HX.out) (fun f => f)).trans HX.out
        have HXX := Lib.hid hX
        clear hA hsl hnn hz hO hlt hk hX
        go_wp2_with (first
          | ((with_reducible refine wpList_isOp (.indexAddr 37 (.tmp 16) (.tmp 17)) rfl ?_); refine wpList_runs _ wr (.pointer (some ⟨b, O, none⟩)) rfl (by have hA := HA.out; have hO := HO.out; go_simp) ?_)
          | fail)
        refine HOP.out.mono ?_
        rintro e w2 ⟨V, rfl, hb2, hc2⟩
        obtain ⟨y, hy⟩ : ∃ y, y = openB nn z V := ⟨_, rfl⟩
        rw [← hy] at hb2 ⊢
        obtain ⟨w3, D, hZ3⟩ := zeR w2
        obtain ⟨A2, C2, hoV, _⟩ := id hb2.row
        obtain ⟨w4, h4⟩ := stR (b := y) hZ3.cx ⟨_, _, _, hoV⟩
        have HC4 := Lib.hid (hc2.trans (hZ3.ch.over h4.ch (by rw [hZ3.sz]; exact Nat.le_refl _)))
        have HC9 := Lib.hid (HC.out.trans HC4.out)
        have HZ3 := Lib.hid hZ3
        have H4 := Lib.hid h4
        have y1 : w4.cell? ⟨D, 1, none⟩ = some (.int .i64 y.vol) := blk_cell h4.cx
        have y2 : w4.cell? ⟨D, 2, none⟩ = some (.int .i64 y.addr) := blk_cell h4.cx
        have hX4 := (HC4.out.block H (blk_lt HXX.out) (fun f => f)).trans HXX.out
        have v0 : w4.cell? ⟨H, 0, none⟩ = some (.int .i64 m.vol) := blk_cell hX4
        have v1 : w4.cell? ⟨H, 1, none⟩ = some (.int .i64 (m.g.W : Int)) := blk_cell hX4
        have v2 : w4.cell? ⟨H, 2, none⟩ = some (.int .i64 (m.g.S : Int)) := blk_cell hX4
        have v3 : w4.cell? ⟨H, 3, none⟩ = some (.int .i64 (m.g.K : Int)) := blk_cell hX4
        have v4 : w4.cell? ⟨H, 4, none⟩ = some (.int .i64 (m.g.M : Int)) := blk_cell hX4
        have HX4 := Lib.hid hX4
        have HH4 := Lib.hid (show w4.heap[D]? = some (.cells (bkC y) 80 (0, 0)) from h4.cx)
        clear hb2 hc2 hZ3 h4 hoV c1 hX4
        obtain ⟨E, hE⟩ : ∃ E, E = openQ nn z := ⟨_, rfl⟩
        rw [← hE]
        cases ho : opensB nn z
        · have HE9 := Lib.hid (show cleanM m q 0 = false by rw [HE.out]; exact clean_no ho)
          have HB9 := Lib.hid (show ∀ c, c < 1 → cleanM m q c = false from fun c hc => by
            by_cases e : c = 0
            · rw [e]; exact HE9.out
            · exact HB.out c (by omega))
          have t1 : (E == 0) = false := by
            rw [hE]
            unfold openQ
            split
            · rw [ho]; rfl
            · rfl
          clear hE ho hy
          go_wp2_with (first
            | ((with_reducible refine wpList_isOp (.alloc 80) rfl ?_); refine wpList_making _ w3 rfl 80 rfl (bkC bk0) D (zero_bk _) (by exact HZ3.out.sz) (by exact HZ3.out.al) ?_)
            | ((with_reducible refine wpList_isOp (.store 80 (.tmp 7) (.tmp 21)) rfl ?_); refine wpList_storing _ w4 rfl 80 (.tmp 7) (.tmp 21) rfl (.agg (bkC y)) ⟨D, 0, none⟩ rfl rfl (by exact H4.out.st) ?_)
            | fail)
          go_quiet (fail)
          have HC9 := Lib.hid (HC9.out.drewN nq)
          go_wp2
          go_roundw
          case rel => exact ⟨1, by omega, by go_num, HC9, HB9⟩
          case measure => simp [intOf]
        · have hE0 : E = 0 := by
            have hn : nn = 256 := by
              by_cases q : nn = 256
              · exact q
              · rw [opensB_long z q] at ho; cases ho
            rw [hE, hn, openE_at, ← hn, ho]; rfl
          subst hE0
          have hyv : y.vol = (readB undef z).vol := by rw [hy, openB_yes ho]; rfl
          have hya : y.addr = (readB undef z).addr := by rw [hy, openB_yes ho]; rfl
          by_cases hv : y.vol = m.vol
          · have t2 : (y.vol == m.vol) = true := by simpa using hv
            have HAD := Lib.hid (fun w => raddr_any m.g.ge 0 (q : Int) w (ok_may HH.out.ok) (by decide) ⟨i1, i2⟩)
            obtain ⟨ad, had⟩ : ∃ ad, ad = addrR m.g.ge 0 (q : Int) := ⟨_, rfl⟩
            rw [← had] at HAD HE
            by_cases ha : y.addr = ad
            · have HE9 := Lib.hid (show cleanM m q 0 = true by rw [HE.out]; exact clean_yes ho (by rw [← hyv]; exact hv) (by rw [← hya]; exact ha))
              have t3 : (y.addr == ad) = true := by simpa using ha
              clear hE ho hy hyv hya hv ha had HE HB
              go_wp2_with (first
                | ((with_reducible refine wpList_isOp (.alloc 80) rfl ?_); refine wpList_making _ w3 rfl 80 rfl (bkC bk0) D (zero_bk _) (by exact HZ3.out.sz) (by exact HZ3.out.al) ?_)
                | ((with_reducible refine wpList_isOp (.store 80 (.tmp 7) (.tmp 21)) rfl ?_); refine wpList_storing _ w4 rfl 80 (.tmp 7) (.tmp 21) rfl (.agg (bkC y)) ⟨D, 0, none⟩ rfl rfl (by exact H4.out.st) ?_)
                | fail)
              go_region_held3 (fun w' => w'.cell? ⟨D, 1, none⟩ = some (.int .i64 y.vol) ∧ w'.cell? ⟨D, 2, none⟩ = some (.int .i64 y.addr) ∧ w'.cell? ⟨H, 0, none⟩ = some (.int .i64 m.vol) ∧ w'.cell? ⟨H, 1, none⟩ = some (.int .i64 (m.g.W : Int)) ∧ w'.cell? ⟨H, 2, none⟩ = some (.int .i64 (m.g.S : Int)) ∧ w'.cell? ⟨H, 3, none⟩ = some (.int .i64 (m.g.K : Int)) ∧ w'.cell? ⟨H, 4, none⟩ = some (.int .i64 (m.g.M : Int))) (first | exact ka | go_keep)
                (first | (go_at_call 42; refine (HAD.out _).mono ?_; rintro e w5 ⟨rfl, q5⟩; have ka := (show HoldC m D H y w5 from holdC_gr ⟨y1, y2, v0, v1, v2, v3, v4⟩ ((Ch.refl (fun _ => False) w4).drew.trans q5)).all))
              have HC5 := Lib.hid (HC9.out.trans ((Ch.refl (fun _ => False) w4).drew.trans q5))
              clear ka q5 y1 y2 v0 v1 v2 v3 v4
              go_wp2
              go_ret
              exact ⟨ret_bool (by rw [HE9.out, Bool.true_or]), HR.out.ch.trans HC5.out⟩
            · have HE9 := Lib.hid (show cleanM m q 0 = false by rw [HE.out]; exact clean_adr (by rw [← hya]; exact ha))
              have HB9 := Lib.hid (show ∀ c, c < 1 → cleanM m q c = false from fun c hc => by
                by_cases e : c = 0
                · rw [e]; exact HE9.out
                · exact HB.out c (by omega))
              have t3 : (y.addr == ad) = false := by simpa using ha
              clear hE ho hy hyv hya hv ha had HE HB
              go_wp2_with (first
                | ((with_reducible refine wpList_isOp (.alloc 80) rfl ?_); refine wpList_making _ w3 rfl 80 rfl (bkC bk0) D (zero_bk _) (by exact HZ3.out.sz) (by exact HZ3.out.al) ?_)
                | ((with_reducible refine wpList_isOp (.store 80 (.tmp 7) (.tmp 21)) rfl ?_); refine wpList_storing _ w4 rfl 80 (.tmp 7) (.tmp 21) rfl (.agg (bkC y)) ⟨D, 0, none⟩ rfl rfl (by exact H4.out.st) ?_)
                | fail)
              go_region_held3 (fun w' => w'.cell? ⟨D, 1, none⟩ = some (.int .i64 y.vol) ∧ w'.cell? ⟨D, 2, none⟩ = some (.int .i64 y.addr) ∧ w'.cell? ⟨H, 0, none⟩ = some (.int .i64 m.vol) ∧ w'.cell? ⟨H, 1, none⟩ = some (.int .i64 (m.g.W : Int)) ∧ w'.cell? ⟨H, 2, none⟩ = some (.int .i64 (m.g.S : Int)) ∧ w'.cell? ⟨H, 3, none⟩ = some (.int .i64 (m.g.K : Int)) ∧ w'.cell? ⟨H, 4, none⟩ = some (.int .i64 (m.g.M : Int))) (first | exact ka | go_keep)
                (first | (go_at_call 42; refine (HAD.out _).mono ?_; rintro e w5 ⟨rfl, q5⟩; have ka := (show HoldC m D H y w5 from holdC_gr ⟨y1, y2, v0, v1, v2, v3, v4⟩ ((Ch.refl (fun _ => False) w4).drew.trans q5)).all))
              have HC5 := Lib.hid (HC9.out.trans ((Ch.refl (fun _ => False) w4).drew.trans q5))
              clear ka q5 y1 y2 v0 v1 v2 v3 v4 HC9
              have HC9 := HC5
              go_wp2
              go_roundw
              case rel => exact ⟨1, by omega, by go_num, HC9, HB9⟩
              case measure => simp [intOf]
          · have HE9 := Lib.hid (show cleanM m q 0 = false by rw [HE.out]; exact clean_vol (by rw [← hyv]; exact hv))
            have HB9 := Lib.hid (show ∀ c, c < 1 → cleanM m q c = false from fun c hc => by
              by_cases e : c = 0
              · rw [e]; exact HE9.out
              · exact HB.out c (by omega))
            have t2 : (y.vol == m.vol) = false := by simpa using hv
            clear hE ho hy hyv hya hv HE
            go_wp2_with (first
              | ((with_reducible refine wpList_isOp (.alloc 80) rfl ?_); refine wpList_making _ w3 rfl 80 rfl (bkC bk0) D (zero_bk _) (by exact HZ3.out.sz) (by exact HZ3.out.al) ?_)
              | ((with_reducible refine wpList_isOp (.store 80 (.tmp 7) (.tmp 21)) rfl ?_); refine wpList_storing _ w4 rfl 80 (.tmp 7) (.tmp 21) rfl (.agg (bkC y)) ⟨D, 0, none⟩ rfl rfl (by exact H4.out.st) ?_)
              | fail)
            go_quiet (fail)
            have HC9 := Lib.hid (HC9.out.drewN nq)
            go_wp2
            go_roundw
            case rel => exact ⟨1, by omega, by go_num, HC9, HB9⟩
            case measure => simp [intOf]
      · rw [show ((1 : Nat) : Int) = 1 from rfl]
        obtain ⟨b, o, A', C', hA, hsl⟩ := (HH.out.gr HC.out).slot HQW.out (c := 1) (by decide)
        obtain ⟨O, hO⟩ : ∃ O, O = o + q := ⟨_, rfl⟩
        rw [← hO] at hsl
        obtain ⟨nn, hnn⟩ : ∃ nn, nn = m.N 1 q := ⟨_, rfl⟩
        obtain ⟨z, hz⟩ : ∃ z, z = m.Z 1 q := ⟨_, rfl⟩
        rw [← hnn, ← hz] at hsl
        have c1 := hsl.cell
        have i1 : (0 : Int) ≤ (q : Int) := Int.natCast_nonneg _
        have i2 : (q : Int) < (m.g.W : Int) := by have := HQW.out; omega
        have HE := Lib.hid (show cleanM m q 1 = cleanB nn z m.vol (addrR m.g.ge 1 (q : Int)) by rw [hnn, hz]; rfl)
        have hix := index_1 (m.A 0) (m.A 1) m.g.W m.g.W (m.C 0) (m.C 1) wr
        have HOP := Lib.hid (bopen_any A' nn C' z wr hsl.row)
        have HA := Lib.hid hA
        have HO := Lib.hid hO.symm
        have hX := (HC.out.block H (blk_lt HX.out) (fun f => f)).trans HX.out
        have HXX := Lib.hid hX
        clear hA hsl hnn hz hO hlt hk hX
        go_wp2_with (first
          | ((with_reducible refine wpList_isOp (.indexAddr 37 (.tmp 16) (.tmp 17)) rfl ?_); refine wpList_runs _ wr (.pointer (some ⟨b, O, none⟩)) rfl (by have hA := HA.out; have hO := HO.out; go_simp) ?_)
          | fail)
        refine HOP.out.mono ?_
        rintro e w2 ⟨V, rfl, hb2, hc2⟩
        obtain ⟨y, hy⟩ : ∃ y, y = openB nn z V := ⟨_, rfl⟩
        rw [← hy] at hb2 ⊢
        obtain ⟨w3, D, hZ3⟩ := zeR w2
        obtain ⟨A2, C2, hoV, _⟩ := id hb2.row
        obtain ⟨w4, h4⟩ := stR (b := y) hZ3.cx ⟨_, _, _, hoV⟩
        have HC4 := Lib.hid (hc2.trans (hZ3.ch.over h4.ch (by rw [hZ3.sz]; exact Nat.le_refl _)))
        have HC9 := Lib.hid (HC.out.trans HC4.out)
        have HZ3 := Lib.hid hZ3
        have H4 := Lib.hid h4
        have y1 : w4.cell? ⟨D, 1, none⟩ = some (.int .i64 y.vol) := blk_cell h4.cx
        have y2 : w4.cell? ⟨D, 2, none⟩ = some (.int .i64 y.addr) := blk_cell h4.cx
        have hX4 := (HC4.out.block H (blk_lt HXX.out) (fun f => f)).trans HXX.out
        have v0 : w4.cell? ⟨H, 0, none⟩ = some (.int .i64 m.vol) := blk_cell hX4
        have v1 : w4.cell? ⟨H, 1, none⟩ = some (.int .i64 (m.g.W : Int)) := blk_cell hX4
        have v2 : w4.cell? ⟨H, 2, none⟩ = some (.int .i64 (m.g.S : Int)) := blk_cell hX4
        have v3 : w4.cell? ⟨H, 3, none⟩ = some (.int .i64 (m.g.K : Int)) := blk_cell hX4
        have v4 : w4.cell? ⟨H, 4, none⟩ = some (.int .i64 (m.g.M : Int)) := blk_cell hX4
        have HX4 := Lib.hid hX4
        have HH4 := Lib.hid (show w4.heap[D]? = some (.cells (bkC y) 80 (0, 0)) from h4.cx)
        clear hb2 hc2 hZ3 h4 hoV c1 hX4
        obtain ⟨E, hE⟩ : ∃ E, E = openQ nn z := ⟨_, rfl⟩
        rw [← hE]
        cases ho : opensB nn z
        · have HE9 := Lib.hid (show cleanM m q 1 = false by rw [HE.out]; exact clean_no ho)
          have HB9 := Lib.hid (show ∀ c, c < 2 → cleanM m q c = false from fun c hc => by
            by_cases e : c = 1
            · rw [e]; exact HE9.out
            · exact HB.out c (by omega))
          have t1 : (E == 0) = false := by
            rw [hE]
            unfold openQ
            split
            · rw [ho]; rfl
            · rfl
          clear hE ho hy
          go_wp2_with (first
            | ((with_reducible refine wpList_isOp (.alloc 80) rfl ?_); refine wpList_making _ w3 rfl 80 rfl (bkC bk0) D (zero_bk _) (by exact HZ3.out.sz) (by exact HZ3.out.al) ?_)
            | ((with_reducible refine wpList_isOp (.store 80 (.tmp 7) (.tmp 21)) rfl ?_); refine wpList_storing _ w4 rfl 80 (.tmp 7) (.tmp 21) rfl (.agg (bkC y)) ⟨D, 0, none⟩ rfl rfl (by exact H4.out.st) ?_)
            | fail)
          go_quiet (fail)
          have HC9 := Lib.hid (HC9.out.drewN nq)
          go_wp2
          go_roundw
          case rel => exact ⟨2, by omega, by go_num, HC9, HB9⟩
          case measure => simp [intOf]
        · have hE0 : E = 0 := by
            have hn : nn = 256 := by
              by_cases q : nn = 256
              · exact q
              · rw [opensB_long z q] at ho; cases ho
            rw [hE, hn, openE_at, ← hn, ho]; rfl
          subst hE0
          have hyv : y.vol = (readB undef z).vol := by rw [hy, openB_yes ho]; rfl
          have hya : y.addr = (readB undef z).addr := by rw [hy, openB_yes ho]; rfl
          by_cases hv : y.vol = m.vol
          · have t2 : (y.vol == m.vol) = true := by simpa using hv
            have HAD := Lib.hid (fun w => raddr_any m.g.ge 1 (q : Int) w (ok_may HH.out.ok) (by decide) ⟨i1, i2⟩)
            obtain ⟨ad, had⟩ : ∃ ad, ad = addrR m.g.ge 1 (q : Int) := ⟨_, rfl⟩
            rw [← had] at HAD HE
            by_cases ha : y.addr = ad
            · have HE9 := Lib.hid (show cleanM m q 1 = true by rw [HE.out]; exact clean_yes ho (by rw [← hyv]; exact hv) (by rw [← hya]; exact ha))
              have t3 : (y.addr == ad) = true := by simpa using ha
              clear hE ho hy hyv hya hv ha had HE HB
              go_wp2_with (first
                | ((with_reducible refine wpList_isOp (.alloc 80) rfl ?_); refine wpList_making _ w3 rfl 80 rfl (bkC bk0) D (zero_bk _) (by exact HZ3.out.sz) (by exact HZ3.out.al) ?_)
                | ((with_reducible refine wpList_isOp (.store 80 (.tmp 7) (.tmp 21)) rfl ?_); refine wpList_storing _ w4 rfl 80 (.tmp 7) (.tmp 21) rfl (.agg (bkC y)) ⟨D, 0, none⟩ rfl rfl (by exact H4.out.st) ?_)
                | fail)
              go_region_held3 (fun w' => w'.cell? ⟨D, 1, none⟩ = some (.int .i64 y.vol) ∧ w'.cell? ⟨D, 2, none⟩ = some (.int .i64 y.addr) ∧ w'.cell? ⟨H, 0, none⟩ = some (.int .i64 m.vol) ∧ w'.cell? ⟨H, 1, none⟩ = some (.int .i64 (m.g.W : Int)) ∧ w'.cell? ⟨H, 2, none⟩ = some (.int .i64 (m.g.S : Int)) ∧ w'.cell? ⟨H, 3, none⟩ = some (.int .i64 (m.g.K : Int)) ∧ w'.cell? ⟨H, 4, none⟩ = some (.int .i64 (m.g.M : Int))) (first | exact ka | go_keep)
                (first | (go_at_call 42; refine (HAD.out _).mono ?_; rintro e w5 ⟨rfl, q5⟩; have ka := (show HoldC m D H y w5 from holdC_gr ⟨y1, y2, v0, v1, v2, v3, v4⟩ ((Ch.refl (fun _ => False) w4).drew.trans q5)).all))
              have HC5 := Lib.hid (HC9.out.trans ((Ch.refl (fun _ => False) w4).drew.trans q5))
              clear ka q5 y1 y2 v0 v1 v2 v3 v4
              go_wp2
              go_ret
              exact ⟨ret_bool (by rw [HE9.out, Bool.or_true]), HR.out.ch.trans HC5.out⟩
            · have HE9 := Lib.hid (show cleanM m q 1 = false by rw [HE.out]; exact clean_adr (by rw [← hya]; exact ha))
              have HB9 := Lib.hid (show ∀ c, c < 2 → cleanM m q c = false from fun c hc => by
                by_cases e : c = 1
                · rw [e]; exact HE9.out
                · exact HB.out c (by omega))
              have t3 : (y.addr == ad) = false := by simpa using ha
              clear hE ho hy hyv hya hv ha had HE HB
              go_wp2_with (first
                | ((with_reducible refine wpList_isOp (.alloc 80) rfl ?_); refine wpList_making _ w3 rfl 80 rfl (bkC bk0) D (zero_bk _) (by exact HZ3.out.sz) (by exact HZ3.out.al) ?_)
                | ((with_reducible refine wpList_isOp (.store 80 (.tmp 7) (.tmp 21)) rfl ?_); refine wpList_storing _ w4 rfl 80 (.tmp 7) (.tmp 21) rfl (.agg (bkC y)) ⟨D, 0, none⟩ rfl rfl (by exact H4.out.st) ?_)
                | fail)
              go_region_held3 (fun w' => w'.cell? ⟨D, 1, none⟩ = some (.int .i64 y.vol) ∧ w'.cell? ⟨D, 2, none⟩ = some (.int .i64 y.addr) ∧ w'.cell? ⟨H, 0, none⟩ = some (.int .i64 m.vol) ∧ w'.cell? ⟨H, 1, none⟩ = some (.int .i64 (m.g.W : Int)) ∧ w'.cell? ⟨H, 2, none⟩ = some (.int .i64 (m.g.S : Int)) ∧ w'.cell? ⟨H, 3, none⟩ = some (.int .i64 (m.g.K : Int)) ∧ w'.cell? ⟨H, 4, none⟩ = some (.int .i64 (m.g.M : Int))) (first | exact ka | go_keep)
                (first | (go_at_call 42; refine (HAD.out _).mono ?_; rintro e w5 ⟨rfl, q5⟩; have ka := (show HoldC m D H y w5 from holdC_gr ⟨y1, y2, v0, v1, v2, v3, v4⟩ ((Ch.refl (fun _ => False) w4).drew.trans q5)).all))
              have HC5 := Lib.hid (HC9.out.trans ((Ch.refl (fun _ => False) w4).drew.trans q5))
              clear ka q5 y1 y2 v0 v1 v2 v3 v4 HC9
              have HC9 := HC5
              go_wp2
              go_roundw
              case rel => exact ⟨2, by omega, by go_num, HC9, HB9⟩
              case measure => simp [intOf]
          · have HE9 := Lib.hid (show cleanM m q 1 = false by rw [HE.out]; exact clean_vol (by rw [← hyv]; exact hv))
            have HB9 := Lib.hid (show ∀ c, c < 2 → cleanM m q c = false from fun c hc => by
              by_cases e : c = 1
              · rw [e]; exact HE9.out
              · exact HB.out c (by omega))
            have t2 : (y.vol == m.vol) = false := by simpa using hv
            clear hE ho hy hyv hya hv HE
            go_wp2_with (first
              | ((with_reducible refine wpList_isOp (.alloc 80) rfl ?_); refine wpList_making _ w3 rfl 80 rfl (bkC bk0) D (zero_bk _) (by exact HZ3.out.sz) (by exact HZ3.out.al) ?_)
              | ((with_reducible refine wpList_isOp (.store 80 (.tmp 7) (.tmp 21)) rfl ?_); refine wpList_storing _ w4 rfl 80 (.tmp 7) (.tmp 21) rfl (.agg (bkC y)) ⟨D, 0, none⟩ rfl rfl (by exact H4.out.st) ?_)
              | fail)
            go_quiet (fail)
            have HC9 := Lib.hid (HC9.out.drewN nq)
            go_wp2
            go_roundw
            case rel => exact ⟨2, by omega, by go_num, HC9, HB9⟩
            case measure => simp [intOf]
    · obtain rfl : k = 2 := by omega
      have HE9 := Lib.hid (show (cleanM m q 0 || cleanM m q 1) = false by rw [HB.out 0 (by omega), HB.out 1 (by omega)]; rfl)
      clear hlt hk
      rw [show ((2 : Nat) : Int) = 2 from rfl]
      go_wp2
      go_ret
      exact ⟨ret_bool HE9.out.symm, HR.out.ch.trans HC.out⟩
end Go.Proofs.YteleknojohnlbaaGreat
