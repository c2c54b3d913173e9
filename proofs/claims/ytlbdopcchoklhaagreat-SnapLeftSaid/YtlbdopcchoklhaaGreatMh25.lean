/-
  (*disk.Disk).blank, miss, walked.
-/
import Derived.Test.YtlbdopcchoklhaaGreatMh23
import Derived.Test.YtlbdopcchoklhaaGreatMh24
import Derived.ArgAppend
import Derived.OrdersHeld
import Derived.BigRegion
namespace Go.Proofs.YtlbdopcchoklhaaGreat
open Go.RowKit
set_option linter.unusedVariables false
set_option maxRecDepth 100000

def blankD (d : Dev) (k : Nat) : Dev := finD (settleD d k) ⟨k, fun _ => 0⟩
set_option maxHeartbeats 800000 in
set_option maxRecDepth 100000 in
theorem blank_any (base : Nat) (p : Ph) (d : Dev) (f : Fa) (w : World) (h : DevIs base w p d) (hW : d.W.length ≤ 1048576) (hp : 0 ≤ f.pl ∧ f.pl < d.n) :
    Calls Tryz.prog 90 #[.pointer (some ⟨p.B, 0, none⟩), .agg (faC f)] w (DPost base p d (blankD d f.pl.toNat) (.int .i64 0) w) := by
  obtain ⟨w1, H, hR⟩ := faR w f
  obtain ⟨k, hk⟩ : ∃ k : Nat, f.pl = (k : Int) := ⟨f.pl.toNat, by omega⟩
  have hkn : k < d.n := by omega
  have h1 : DevIs base w1 p d := h.gr hR.ch
  have x1 : w1.cell? ⟨H, 1, none⟩ = some (.int .i64 (k : Int)) := by rw [← hk]; exact hR.at 1
  rw [show f.pl.toNat = k by omega]
  have HT := Lib.hid (settle_any base p d k w1 h1 hW)
  have HR := Lib.hid hR
  have HX := Lib.hid (show ¬ Foot p d H from fun q => by have := (h.foot q).2; have := hR.sz; omega)
  have HK := Lib.hid hkn
  clear h h1 hp hW
  obtain ⟨B, G, V, m, cG⟩ := p
  go_enter Tryz.func90, Tryz.ntmps90
  go_wp2_with ((with_reducible refine wpList_same ?_); refine wpList_boxing _ w1 rfl 45 (.tmp 1) rfl (faC f) H rfl (by exact HR.out.sz) (by exact HR.out.al) ?_)
  refine HT.out.mono ?_
  rintro e w2 ⟨rfl, p2, hp2, h2, hf2, hc2⟩
  have hn2 : (settleD d k).n = d.n := finAll_n _ _
  have x2 : w2.cell? ⟨H, 1, none⟩ = some (.int .i64 (k : Int)) := hc2.cell x1 HX.out
  have HF := Lib.hid (finish_any base p2 (settleD d k) ⟨k, fun _ => 0⟩ w2 h2 (by rw [hn2]; exact HK.out) (fun _ _ => (by decide : 0 < 256)))
  have HD : Hid (∀ w3, DevIs base w3 p2 (finD (settleD d k) ⟨k, fun _ => 0⟩) → Ch (Foot p2 (settleD d k)) w2 w3 → DPost base ⟨B, G, V, m, cG⟩ d (blankD d k) (.int .i64 0) w (.returned (.int .i64 0)) w3) := fun w3 h3 k3 => by
    have k1 : Ch (Foot ⟨B, G, V, m, cG⟩ d) w w2 := (HR.out.ch.mono fun _ _ f => f.elim).trans hc2
    have hf : ∀ i, Foot p2 (settleD d k) i → Foot ⟨B, G, V, m, cG⟩ d i ∨ w.heap.size ≤ i := fun i hi => by
      rcases hf2 i hi with q | q
      · exact Or.inl q
      · exact Or.inr (Nat.le_trans HR.out.ch.size q)
    refine ⟨rfl, p2, hp2, h3, hf, ⟨k3.os.trans k1.os, k3.tape.trans k1.tape, k3.output.trans k1.output, Nat.le_trans k1.size k3.size, fun i hi hS => ?_⟩⟩
    rw [k3.block i (Nat.lt_of_lt_of_le hi k1.size) (fun e => by
      rcases hf i e with q | q
      · exact hS q
      · omega)]
    exact k1.block i hi hS
  rw [hp2] at HF
  clear h2 hf2 hc2 hR x1 hn2 hp2
  go_wp2_with (first
    | ((with_reducible refine wpList_same ?_); refine wpList_building1 _ rfl 95 0 (.tmp 11) rfl (.int .i64 (k : Int)) (.agg (Value.int .i64 (k : Int) :: bytesL 256 (fun _ => 0)).toArray) rfl (by exact built_write _ _) ?_)
    | (go_at_call 55; refine (show Calls Tryz.prog _ #[_, .agg (wtC ⟨k, fun _ => 0⟩).toArray] _ _ from HF.out).mono ?_; rintro e w3 ⟨rfl, h3, hc3⟩))
  have HP := Lib.hid (HD.out w3 h3 hc3)
  clear h3 hc3
  go_wp2
  go_ret
  exact HP.out
/-! ### one misled more -/
theorem info_int : (Tryz.prog.info? 3).map (fun i => (i.zero, i.size, i.bytes)) = some (some (.int .i64 0), 1, 8) := by kernel_rfl
theorem under_ints : Tryz.prog.underlying 58 = some (.slice 3) := by kernel_rfl
def intsL (l : List Nat) : List Value := l.map fun x : Nat => Value.int .i64 (x : Int)
theorem intsL_get {l : List Nat} {i : Nat} {u : Value} (h : (intsL l)[i]? = some u) : ∃ x : Nat, l[i]? = some x ∧ u = .int .i64 (x : Int) := by
  unfold intsL at h
  rw [List.getElem?_map] at h
  cases hq : l[i]? with
  | none => rw [hq] at h; cases h
  | some x => rw [hq] at h; simp at h; exact ⟨x, rfl, h.symm⟩
theorem intsL_of {l : List Nat} {i x : Nat} (h : l[i]? = some x) : (intsL l)[i]? = some (.int .i64 (x : Int)) := by unfold intsL; rw [List.getElem?_map, h]; rfl
theorem intsL_len (l : List Nat) : (intsL l).length = l.length := by unfold intsL; simp
theorem app_miss {w : World} {v : Value} {l : List Nat} {x C : Nat} {ad : Addr} (h : MissIs w v l) (hx : w.cell? (ad.add 0) = some (.int .i64 (x : Int))) (hl : l.length ≤ 1048576) :
    ∃ v' w', (Builtin.append_ #[ 58, 58] 58 #[v, .slice (some ad) 1 C]).run Tryz.prog w = .ok v' w' ∧ MissIs w' v' (l ++ [x]) ∧ Ch (fun i => v.ownBlock = some i) w w' ∧ (∀ i, v'.ownBlock = some i → v.ownBlock = some i ∨ i = w.heap.size) := by
  obtain ⟨i0, hi, hz0, hz1, hz2⟩ := info_parts info_int
  have hnews : ∀ j u, [Value.int .i64 (x : Int)][j]? = some u → w.cell? (ad.add j) = some u := fun j u hu => by
    match j, hu with
    | 0, hu => simp at hu; rw [hx, hu]
  have gcap : ∀ n c : Nat, n ≤ maxLen → grownCap w n c 3 ≤ 9223372036854775807 := fun n c hn => by have := grownCap_le_maxLen w n c 3 hn; unfold maxLen at this; omega
  rcases h with ⟨rfl, rfl⟩ | ⟨b, o, cap, c, rfl, hcap, hb, hsz, hmx, hall⟩
  · have hr := run_append_nil (P := Tryz.prog) w 58 58 3 i0 _ under_ints hi hz0 ad 1 C [.int .i64 (x : Int)] (by rw [hz1]; rfl) hnews (by omega) (by omega) (by rw [hz2]; omega)
    have hge := grownCap_ge w 1 0 3
    refine ⟨_, _, hr, Or.inr ⟨w.heap.size, 0, _, _, rfl, hge, heap_alloc_new w.drew _, ?_, gcap 1 0 (by unfold maxLen; omega), fun i y hy => ?_⟩, ((Ch.refl _ w).drew).alloc _ _, fun i hi => Or.inr (by injection hi with hi; exact hi.symm)⟩
    · simp [Array.size_append, size_zeroCells, Value.cells]
      omega
    · match i, hy with
      | 0, hy =>
        simp at hy
        subst hy
        rw [Array.getElem?_append_left (by simp)]
        simp
  · by_cases hroom : l.length + 1 ≤ cap
    · have hr := run_append_room_cells (P := Tryz.prog) w 58 58 3 i0 under_ints hi b o l.length cap ad 1 C [.int .i64 (x : Int)] (by rw [hz1]; rfl) hnews (fun u hu => by rw [List.mem_singleton.1 hu]; rfl) hroom
        (fun j hj => by
          rw [hz1, blk_cell hb]
          simp at hj
          simp
          omega) (fun j hj => blk_frozen hb)
      rw [hz1, Nat.mul_one] at hr
      refine ⟨_, _, hr, Or.inr ⟨b, o, cap, c.setIfInBounds (o + l.length) (.int .i64 (x : Int)), by simp, by simpa using hroom, blk_set hb _, by simpa using hsz, hmx, fun i y hy => ?_⟩, Ch.setCell (S := fun i => Value.ownBlock (.slice (some ⟨b, o, none⟩) l.length cap) = some i) (Ch.refl _ w) (p := ⟨b, o + l.length, none⟩) (Or.inl rfl) _, fun i hi => Or.inl hi⟩
      by_cases q : i < l.length
      · rw [List.getElem?_append_left q] at hy
        rw [Array.getElem?_setIfInBounds_ne (by omega)]
        exact hall i y hy
      · have hi2 : i = l.length := by
          have := (List.getElem?_eq_some_iff.1 hy).1
          simp at this
          omega
        subst hi2
        rw [List.getElem?_append_right (Nat.le_refl _), Nat.sub_self] at hy
        simp at hy
        subst hy
        rw [Array.getElem?_setIfInBounds_self_of_lt (by omega)]
    · have hr := run_append_grow (P := Tryz.prog) w 58 58 3 i0 _ under_ints hi hz0 ⟨b, o, none⟩ l.length cap (intsL l) (by rw [intsL_len, hz1, Nat.mul_one]) (fun j u hu => by
          obtain ⟨y, hy, rfl⟩ := intsL_get hu
          rw [add_pl, blk_cell hb]
          exact hall j y hy) ad 1 C [.int .i64 (x : Int)] (by rw [hz1]; rfl) hnews (by omega) (by omega) (growslice_fits (by omega) (by rw [hz2]; omega))
      have hge := grownCap_ge w (l.length + 1) cap 3
      refine ⟨_, _, hr, Or.inr ⟨w.heap.size, 0, _, _, by simp, by simpa using hge, heap_alloc_new w.drew _, ?_, gcap (l.length + 1) cap (by unfold maxLen; omega), fun i y hy => ?_⟩, ((Ch.refl _ w).drew).alloc _ _, fun i hi => Or.inr (by injection hi with hi; exact hi.symm)⟩
      · simp [Array.size_append, size_zeroCells, Value.cells, intsL_len]
        omega
      · have hil : i < l.length + 1 := by
          have := (List.getElem?_eq_some_iff.1 hy).1
          simpa using this
        rw [Nat.zero_add, Array.getElem?_append_left (by simp [intsL_len]; omega)]
        have e : (intsL l).toArray ++ [Value.int .i64 (x : Int)].toArray = (intsL (l ++ [x])).toArray := by unfold intsL; simp
        rw [e, List.getElem?_toArray]
        exact intsL_of hy
def missE (d : Dev) (f : Fa) : Int := if hasB d f.tto then 0 else 3
def missD (d : Dev) (f : Fa) : Dev := if hasB d f.tto then { d with miss := up d.miss f.pl.toNat (d.miss f.pl.toNat ++ [f.tto.toNat]) } else d
theorem step_appI {ops : Array Oper} {o : Oper} {a : Act} {w : World} {K : Act → World → Prop} {Q : Exit → Act → World → Prop} {E : Prop} (hg : o.guard = none) (s x : Operand)
    (hop : o.op = Op.call { callee := Callee.builtin Builtin.append, args := #[s, x], argTypes := #[ 58, 58] }) (hty : o.type = 58) (sv xv v' : Value) (w' : World) (hs : a.eval s = sv) (hx : a.eval x = xv)
    (hrun : (Builtin.append_ #[ 58, 58] 58 #[sv, xv]).run Tryz.prog w = .ok v' w') (hK : K (a.put o.dst v') w') : if Region.wanted o (yielded ops a.tmps) = true then Oper.wp Tryz.prog o a w K Q else E := by
  have hw : Region.wanted o (yielded ops a.tmps) = true := by simp [Region.wanted, hg]
  rw [if_pos hw]
  unfold Oper.wp
  simp only [execOp, hop, hty, resolve, invoke, builtin, Sem.run_bind, Sem.run_pure, Result.andThen_ok, List.map_toArray, List.map_cons, List.map_nil, hs, hx, hrun]
  exact hK
set_option maxHeartbeats 1600000 in
set_option maxRecDepth 100000 in
theorem miss_any (base : Nat) (p : Ph) (d : Dev) (f : Fa) (w : World) (h : DevIs base w p d) (hp : 0 ≤ f.pl ∧ f.pl < d.n) (hM : (d.miss f.pl.toNat).length ≤ 1048576) :
    Calls Tryz.prog 93 #[.pointer (some ⟨p.B, 0, none⟩), .agg (faC f)] w (DPost base p d (missD d f) (.int .i64 (missE d f)) w) := by
  obtain ⟨w1, H, hR⟩ := faR w f
  obtain ⟨k, hk⟩ : ∃ k : Nat, f.pl = (k : Int) := ⟨f.pl.toNat, by omega⟩
  have hkn : k < d.n := by omega
  have h1 : DevIs base w1 p d := h.gr hR.ch
  have x1 : w1.cell? ⟨H, 1, none⟩ = some (.int .i64 (k : Int)) := by rw [← hk]; exact hR.at 1
  have x4 : w1.cell? ⟨H, 4, none⟩ = some (.int .i64 f.tto) := hR.at 4
  have HR := Lib.hid hR
  have HH := Lib.hid (dhas_any base p d f.tto w1 h1)
  cases hq : hasB d f.tto
  · rw [hq] at HH
    have hS : missE d f = 3 ∧ missD d f = d := by unfold missE missD; rw [hq]; exact ⟨rfl, rfl⟩
    rw [hS.1, hS.2]
    have HP := Lib.hid (DPost.turned (base := base) (r := .int .i64 3) h1 rfl (hR.ch.mono fun _ _ f => f.elim) (w := w))
    clear h h1 hR hk hS hp hq
    go_enter Tryz.func93, Tryz.ntmps93
    go_wp2_with (first
      | ((with_reducible refine wpList_same ?_); refine wpList_boxing _ w1 rfl 45 (.tmp 1) rfl (faC f) H rfl (by exact HR.out.sz) (by exact HR.out.al) ?_)
      | (go_at_call 50; refine HH.out.mono ?_; rintro e w2 ⟨rfl, rfl⟩))
    go_ret
    exact HP.out
  · rw [hq] at HH
    obtain ⟨t, ht⟩ : ∃ t : Nat, f.tto = (t : Int) := ⟨f.tto.toNat, by have := of_decide_eq_true hq; omega⟩
    have htn : t < d.n := by have := of_decide_eq_true hq; omega
    have hS : missE d f = 0 ∧ missD d f = { d with miss := up d.miss k (d.miss k ++ [t]) } := by unfold missE missD; rw [hq, hk, ht, Int.toNat_natCast, Int.toNat_natCast]; exact ⟨rfl, rfl⟩
    rw [hS.1, hS.2]
    rw [ht] at x4 HH
    have hMk : (d.miss k).length ≤ 1048576 := by rw [show k = f.pl.toNat by omega]; exact hM
    have i1 : (0 : Int) ≤ (k : Int) := Int.natCast_nonneg _
    have i2 : (k : Int) < (d.n : Int) := by omega
    have c0 : w1.cell? ⟨p.B, 0, none⟩ = some (.slice (some ⟨p.G, 0, none⟩) d.n p.c) := h1.cellB 0
    have H1 := Lib.hid h1
    have HK := Lib.hid hkn
    have HTN := Lib.hid htn
    clear h h1 hR hk hS hp hq ht hM hkn htn
    obtain ⟨B, G, V, m, cG⟩ := p
    go_enter Tryz.func93, Tryz.ntmps93
    go_wp2_with (first
      | ((with_reducible refine wpList_same ?_); refine wpList_boxing _ w1 rfl 45 (.tmp 1) rfl (faC f) H rfl (by exact HR.out.sz) (by exact HR.out.al) ?_)
      | (go_at_call 50; refine HH.out.mono ?_; rintro e w2 ⟨rfl, rfl⟩))
    go_quiet (fail)
    go_wp2
    -- the world behind the second draw
    obtain ⟨wd, hwd⟩ : ∃ wd, wd = (w1.drewN nq).drew := ⟨_, rfl⟩
    have kd : Ch (fun _ => False) w1 wd := by rw [hwd]; exact ((Ch.refl _ w1).drewN nq).drew
    have hd : DevIs base wd ⟨B, G, V, m, cG⟩ d := H1.out.gr kd
    have y4 : wd.cell? ⟨H, 4, none⟩ = some (.int .i64 (t : Int)) := kd.cell x4 (fun f => f)
    have cm : wd.cell? ⟨G, k * 259 + 258, none⟩ = some (m k) := hd.cellG HK.out (by omega : 258 < 259)
    obtain ⟨ws, hws⟩ : ∃ ws, ws = wd.alloc (.cells #[.int .i64 (t : Int)] 3) := ⟨_, rfl⟩
    have ks : Ch (fun _ => False) wd ws := by rw [hws]; exact (Ch.refl _ wd).alloc _ _
    have hds : DevIs base ws ⟨B, G, V, m, cG⟩ d := hd.gr ks
    have cms : ws.cell? ⟨G, k * 259 + 258, none⟩ = some (m k) := hds.cellG HK.out (by omega : 258 < 259)
    have y4s : ws.cell? ⟨H, 4, none⟩ = some (.int .i64 (t : Int)) := ks.cell y4 (fun f => f)
    obtain ⟨v', w4, hr4, hm4, hk4, hv4⟩ := app_miss (x := t) (C := 1) (ad := ⟨wd.heap.size, 0, none⟩) (hds.ms k HK.out) (by rw [add_pl, hws, alloc_cell]; rfl) hMk
    have hGM : ¬ (m k).ownBlock = some G := hds.GM HK.out
    have hmH : ¬ (m k).ownBlock = some H := fun e => by
      have h2 := ((H1.out.ms k HK.out).at e)
      obtain ⟨c, hc⟩ := h2
      exact cells_ne HR.out.cx hc (by decide) rfl
    have kG4 : w4.heap[G]? = ws.heap[G]? := hk4.block G hds.sec.lt hGM
    have c4 : w4.cell? ⟨G, k * 259 + 258, none⟩ = some (m k) := hk4.cell cms hGM
    have f4' : w4.frozen? ⟨G, k * 259 + 258, none⟩ = false := (hds.sec.of_block kG4).frozen _
    have y44 : w4.cell? ⟨H, 4, none⟩ = some (.int .i64 (t : Int)) := hk4.cell y4s hmH
    have hGH : G ≠ H := fun e => by
      obtain ⟨c, hc, _⟩ := H1.out.sec
      have := HR.out.cx
      rw [← e] at this
      exact cells_ne hc this (by decide) rfl
    have y45 : (w4.setCell ⟨G, k * 259 + 258, none⟩ v').cell? ⟨H, 4, none⟩ = some (.int .i64 (t : Int)) := by rw [World.cell?_setCell_other _ _ _ _ (fun e => hGH (congrArg Addr.block e))]; exact y44
    have hks5 : Ch (fun i => i = G ∨ (m k).ownBlock = some i) ws (w4.setCell ⟨G, k * 259 + 258, none⟩ v') := Ch.setCell (S := fun i => i = G ∨ (m k).ownBlock = some i) (hk4.mono fun _ _ e => Or.inr e) (p := ⟨G, k * 259 + 258, none⟩) (Or.inl (Or.inl rfl)) _
    have ho4 : ∀ i, v'.ownBlock = some i → (m k).ownBlock = some i ∨ ws.heap.size ≤ i := fun i hi => by
      rcases hv4 i hi with q | q
      · exact Or.inl q
      · exact Or.inr (by omega)
    have hGv : ¬ v'.ownBlock = some G := fun e => by
      obtain ⟨c, hc⟩ := hm4.at e
      obtain ⟨c2, hc2, _⟩ := hds.sec
      rw [← kG4] at hc2
      exact cells_ne hc2 hc (by decide) rfl
    have hdev : DevIs base (w4.setCell ⟨G, k * 259 + 258, none⟩ v') ⟨B, G, V, up m k v', cG⟩ { d with miss := up d.miss k (d.miss k ++ [t]) } := by
      refine hds.turnM HK.out hks5 ?_ (hm4.of (fun i hi => (Ch.setCell (S := fun j => j = G) (Ch.refl _ w4) (p := ⟨G, k * 259 + 258, none⟩) (Or.inl rfl) v').block i (by obtain ⟨c, hc⟩ := hm4.at hi; exact blk_lt hc) (fun e => hGv (e ▸ hi)))) ho4 (fun y hy => ?_)
      · have h4 : DevIs base ws ⟨B, G, V, m, cG⟩ d := hds
        have := sec_setM h4 HK.out v'
        refine this.of_block ?_
        have e1 : (w4.setCell ⟨G, k * 259 + 258, none⟩ v').heap[G]? = (ws.setCell ⟨G, k * 259 + 258, none⟩ v').heap[G]? := by
          obtain ⟨c, hc, _⟩ := hds.sec
          rw [blk_set hc, blk_set (kG4.trans hc)]
        exact e1
      · rcases List.mem_append.1 hy with q | q
        · exact hds.mok k HK.out y q
        · rw [List.mem_singleton.1 q]; exact HTN.out
    have HP := Lib.hid (show DPost base ⟨B, G, V, m, cG⟩ d { d with miss := up d.miss k (d.miss k ++ [t]) } (.int .i64 0) w (.returned (.int .i64 0)) (w4.setCell ⟨G, k * 259 + 258, none⟩ v') from by
      have kw : Ch (fun _ => False) w ws := (HR.out.ch.trans kd).trans ks
      refine ⟨rfl, ⟨B, G, V, up m k v', cG⟩, rfl, hdev, fun i hi => ?_, (kw.mono fun _ _ f => f.elim).trans (hks5.mono fun i _ hi => hi.elim (fun e => Or.inr (Or.inl e)) (fun e => Or.inr (Or.inr (Or.inr ⟨k, HK.out, e⟩))))⟩
      rcases foot_turnM (p := ⟨B, G, V, m, cG⟩) (d := d) HK.out (v := v') (l := d.miss k ++ [t]) ws.heap.size ho4 i hi with q | q
      · exact Or.inl q
      · exact Or.inr (Nat.le_trans kw.size q))
    obtain ⟨K2, hK2⟩ : ∃ K2, K2 = wd.heap.size := ⟨_, rfl⟩
    rw [← hK2, show (⟨B, G, V, m, cG⟩ : Ph).m k = m k from rfl] at hr4
    have HRUN := Lib.hid hr4
    have HWS := Lib.hid hws.symm
    have HK2 := Lib.hid hK2.symm
    have HWD := Lib.hid hwd
    obtain ⟨Am, nm, Cm, em⟩ : ∃ Am nm Cm, m k = .slice Am nm Cm := by
      rcases hds.ms k HK.out with ⟨e, _⟩ | ⟨_, _, _, _, e, _⟩
      · exact ⟨_, _, _, e⟩
      · exact ⟨_, _, _, e⟩
    obtain ⟨Av, nv, Cv, ev⟩ : ∃ Av nv Cv, v' = .slice Av nv Cv := by
      rcases hm4 with ⟨e, _⟩ | ⟨_, _, _, _, e, _⟩
      · exact ⟨_, _, _, e⟩
      · exact ⟨_, _, _, e⟩
    have em2 : m k = .slice Am nm Cm := em
    rw [em2] at cm cms c4 HRUN
    subst ev
    clear hr4 hws hK2 hwd hdev hGv ho4 hks5 hGH kG4 hmH hGM hm4 hk4 hv4 hds ks hd kd em em2
    refine wp_region_held (S := fun W' => W'.cell? ⟨H, 4, none⟩ = some (.int .i64 (t : Int))) (by kernel_rfl) ?_
    change wpAnyH _ _ _ _ _ _ _ _ (World.drew _)
    rw [← HWD.out]
    have HS : (fun W' : World => W'.cell? ⟨H, 4, none⟩ = some (.int .i64 (t : Int))) wd := y4
    refine wpAnyH_take (i := 0) (v := .pointer (some ⟨G, k * 259, none⟩)) rfl (by kernel_rfl) (by kernel_rfl) (by kernel_rfl) (fun _ _ _ h => h) (Or.inl ⟨by rfl, fun w' hS => ?_⟩) HS ?_
    · clear hS; go_simp
    refine wpAnyH_take (i := 1) (v := .pointer (some ⟨G, k * 259, none⟩)) rfl (by kernel_rfl) (by kernel_rfl) (by kernel_rfl) (fun _ _ _ h => h) (Or.inl ⟨by rfl, fun w' hS => ?_⟩) HS ?_
    · clear hS; go_simp
    refine wpAnyH_take (i := 2) (v := .pointer (some ⟨G, k * 259, none⟩)) rfl (by kernel_rfl) (by kernel_rfl) (by kernel_rfl) (fun _ _ _ h => h) (Or.inl ⟨by rfl, fun w' hS => ?_⟩) HS ?_
    · clear hS; go_simp
    refine wpAnyH_take (i := 3) (v := .pointer (some ⟨G, k * 259 + 258, none⟩)) rfl (by kernel_rfl) (by kernel_rfl) (by kernel_rfl) (fun _ _ _ h => h) (Or.inl ⟨by rfl, fun w' hS => ?_⟩) HS ?_
    · clear hS; go_simp
    refine wpAnyH_take (i := 5) (v := .pointer (some ⟨H, 4, none⟩)) rfl (by kernel_rfl) (by kernel_rfl) (by kernel_rfl) (fun _ _ _ h => h) (Or.inl ⟨by rfl, fun w' hS => ?_⟩) HS ?_
    · clear hS; go_simp
    refine wpAnyH_take (i := 6) (v := .int .i64 (t : Int)) rfl (by kernel_rfl) (by kernel_rfl) (by kernel_rfl) (fun _ _ _ h => h) (Or.inl ⟨by rfl, fun w' hS => ?_⟩) HS ?_
    · dsimp only at hS; go_simp
    change wpAnyH Tryz.prog .any _ _ _ 6 #[true, true, true, true, false, true, true, false, false, false, false, false] _ wd
    simp only [Act.put, List.setIfInBounds_toArray]
    refine wpAnyH_ready (rs := [4, 7]) (by kernel_rfl) (by simp) ?_
    refine AllReadyH.cons rfl (fun K hK => ?_) (AllReadyH.cons rfl (fun K hK => ?_) AllReadyH.nil)
    · go_simp
      refine hK.out _ _ y4 (fun _ => ?_)
      clear hK K
      refine wpAnyH_ready (rs := [7]) (by kernel_rfl) (by simp) ?_
      refine AllReadyH.cons rfl (fun K hK => ?_) AllReadyH.nil
      go_simp
      rw [HWS.out, HK2.out]
      refine hK.out _ _ y4s (fun _ => ?_)
      clear hK K
      refine wpAnyH_ready (rs := [8]) (by kernel_rfl) (by simp) ?_
      refine AllReadyH.cons rfl (fun K hK => ?_) AllReadyH.nil
      refine step_appI rfl (.tmp 22) (.tmp 25) rfl rfl _ _ (.slice Av nv Cv) w4 rfl rfl HRUN.out ?_
      refine hK.out _ _ y44 (fun _ => ?_)
      clear hK K
      refine wpAnyH_ready (rs := [9]) (by kernel_rfl) (by simp) ?_
      refine AllReadyH.cons rfl (fun K hK => ?_) AllReadyH.nil
      go_simp
      refine hK.out _ _ y44 (fun _ => ?_)
      clear hK K
      refine wpAnyH_ready (rs := [10]) (by kernel_rfl) (by simp) ?_
      refine AllReadyH.cons rfl (fun K hK => ?_) AllReadyH.nil
      go_simp
      refine hK.out _ _ y44 (fun _ => ?_)
      clear hK K
      refine wpAnyH_ready (rs := [11]) (by kernel_rfl) (by simp) ?_
      refine AllReadyH.cons rfl (fun K hK => ?_) AllReadyH.nil
      go_simp
      refine hK.out _ _ y45 (fun _ => ?_)
      clear hK K
      refine wpAnyH_done (by kernel_rfl) ?_ _
      go_wp2
      go_ret
      exact HP.out
    · go_simp
      rw [HWS.out, HK2.out]
      refine hK.out _ _ y4s (fun _ => ?_)
      clear hK K
      refine wpAnyH_ready (rs := [4]) (by kernel_rfl) (by simp) ?_
      refine AllReadyH.cons rfl (fun K hK => ?_) AllReadyH.nil
      go_simp
      refine hK.out _ _ y4s (fun _ => ?_)
      clear hK K
      refine wpAnyH_ready (rs := [8]) (by kernel_rfl) (by simp) ?_
      refine AllReadyH.cons rfl (fun K hK => ?_) AllReadyH.nil
      refine step_appI rfl (.tmp 22) (.tmp 25) rfl rfl _ _ (.slice Av nv Cv) w4 rfl rfl HRUN.out ?_
      refine hK.out _ _ y44 (fun _ => ?_)
      clear hK K
      refine wpAnyH_ready (rs := [9]) (by kernel_rfl) (by simp) ?_
      refine AllReadyH.cons rfl (fun K hK => ?_) AllReadyH.nil
      go_simp
      refine hK.out _ _ y44 (fun _ => ?_)
      clear hK K
      refine wpAnyH_ready (rs := [10]) (by kernel_rfl) (by simp) ?_
      refine AllReadyH.cons rfl (fun K hK => ?_) AllReadyH.nil
      go_simp
      refine hK.out _ _ y44 (fun _ => ?_)
      clear hK K
      refine wpAnyH_ready (rs := [11]) (by kernel_rfl) (by simp) ?_
      refine AllReadyH.cons rfl (fun K hK => ?_) AllReadyH.nil
      go_simp
      refine hK.out _ _ y45 (fun _ => ?_)
      clear hK K
      refine wpAnyH_done (by kernel_rfl) ?_ _
      go_wp2
      go_ret
      exact HP.out
end Go.Proofs.YtlbdopcchoklhaaGreat
