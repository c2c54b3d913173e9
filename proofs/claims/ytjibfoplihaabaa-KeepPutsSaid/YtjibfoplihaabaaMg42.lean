/-
  (*disk.Disk).Copy, walked.
-/
import Derived.Test.YtjibfoplihaabaaMg31
import Derived.Deep.RegionHeld3
namespace Go.Proofs.Ytjibfoplihaabaa
open Go.RowKit
set_option linter.unusedVariables false
set_option maxRecDepth 100000

/-! ### the answers of the clones, said for both cases -/
theorem cloneWv {base : Nat} {A : Option Addr} {n C : Nat} {xs : List Value} {w : World} (h : w.ownsRow base 87 257 (.slice A n C) n xs) (h1 : ∀ u ∈ xs, u.oneCell' = true) (hn : n ≤ 1048576) :
    Calls Try.prog 38 #[.slice A n C] w fun e w' => ∃ A' C', e = .returned (.slice A' n C') ∧ w'.ownsRow w.heap.size 87 257 (.slice A' n C') n xs ∧ Ch (fun _ => False) w w' := by
  rcases h.2 with ⟨hv, h0⟩ | ⟨g, cap, cur, hv, _, hg, hcap, _, hs, ht⟩
  · injection hv with e1 e2 e3
    subst e1
    subst h0
    refine (cloneW_nil _ _ w).mono ?_
    rintro e w' ⟨rfl, rfl⟩
    exact ⟨none, 0, rfl, ⟨h.1, Or.inl ⟨rfl, rfl⟩⟩, Ch.refl _ _⟩
  · injection hv with e1 e2 e3
    subst e1
    refine (cloneW_some ⟨g, 0, none⟩ n C xs w h.1 (fun j u hj => ?_) h1 hn).mono ?_
    · rw [add_pl, Nat.zero_add, blk_cell hg, ← Array.getElem?_toList]
      rw [← ht, List.getElem?_take] at hj
      split at hj
      · exact hj
      · cases hj
    · rintro e w' ⟨v, rfl, h2, h3⟩
      rcases h2.2 with ⟨rfl, rfl⟩ | ⟨g2, cap2, cur2, rfl, h5⟩
      · exact ⟨none, 0, rfl, h2, h3⟩
      · exact ⟨_, _, rfl, h2, h3⟩
/-- What the sectors hold, one cell after the other. -/
def secL (d : Dev) (m : Nat → Value) : List Value := (List.range (d.n * 259)).map fun i => secV d m (i / 259) (i % 259)
theorem secL_len (d : Dev) (m : Nat → Value) : (secL d m).length = d.n * 259 := by unfold secL; simp
theorem secL_get {d : Dev} {m : Nat → Value} {j : Nat} {u : Value} (h : (secL d m)[j]? = some u) : j < d.n * 259 ∧ u = secV d m (j / 259) (j % 259) := by
  have hj : j < d.n * 259 := by rw [← secL_len d m]; exact (List.getElem?_eq_some_iff.1 h).1
  unfold secL at h
  rw [List.getElem?_map, List.getElem?_range hj] at h
  injection h with h
  exact ⟨hj, h.symm⟩
theorem secL_of {d : Dev} {m : Nat → Value} {j : Nat} (h : j < d.n * 259) : (secL d m)[j]? = some (secV d m (j / 259) (j % 259)) := by
  unfold secL
  rw [List.getElem?_map, List.getElem?_range h]
  rfl
theorem DevIs.mform {base : Nat} {w : World} {p : Ph} {d : Dev} (h : DevIs base w p d) {a : Nat} (ha : a < d.n) : ∃ A n C, p.m a = .slice A n C := by
  rcases h.ms a ha with ⟨e, _⟩ | ⟨b, o, cap, c, e, _⟩
  · exact ⟨_, _, _, e⟩
  · exact ⟨_, _, _, e⟩
theorem secV_one {base : Nat} {w : World} {p : Ph} {d : Dev} (h : DevIs base w p d) {a j : Nat} (ha : a < d.n) : (secV d p.m a j).oneCell' = true := by
  unfold secV
  split
  · rfl
  · split
    · rfl
    · split
      · rfl
      · obtain ⟨A, n, C, e⟩ := h.mform ha
        rw [e]; rfl
theorem cloneSv {base : Nat} {w : World} {p : Ph} {d : Dev} (h : DevIs base w p d) : Calls Try.prog 39 #[.slice (some ⟨p.G, 0, none⟩) d.n p.c] w fun e w' => ∃ g c, e = .returned (.slice (some ⟨g, 0, none⟩) d.n c) ∧ w.heap.size ≤ g ∧ SecsIs w' g 92 (d.n * 259) (fun i => secV d p.m (i / 259) (i % 259)) ∧ Ch (fun _ => False) w w' := by
  refine (cloneS_some ⟨p.G, 0, none⟩ d.n p.c (secL d p.m) w (secL_len _ _) (fun j u hj => ?_) (fun u hu => ?_) (by have := h.nn.2; omega)).mono ?_
  · obtain ⟨hjl, rfl⟩ := secL_get hj
    rw [add_pl, Nat.zero_add]
    exact h.sec.cell hjl
  · obtain ⟨j, hj⟩ := List.mem_iff_getElem?.1 hu
    obtain ⟨hj, rfl⟩ := secL_get hj
    exact secV_one h (by omega)
  · rintro e w' ⟨v, rfl, h2, h3⟩
    rcases h2.2 with ⟨rfl, h0⟩ | ⟨g, cap, cur, rfl, hb, hg, hcap, _, hs, ht⟩
    · have := h.nn.1
      omega
    · have hle := Nat.mul_le_mul_right 259 hcap
      refine ⟨g, cap, rfl, hb, ⟨cur, hg, by omega, fun i hi => ?_⟩, h3⟩
      have h1 := secL_of (m := p.m) hi
      rw [← ht, List.getElem?_take, if_pos hi] at h1
      rw [← h1, Array.getElem?_toList]

/-! ### the world between two rounds -/
structure CopySt (w wr : World) (p2 : Ph) (d : Dev) (old : Nat → Value) (i : Nat) : Prop where
  ch : Ch (fun _ => False) w wr
  blk : wr.heap[p2.B]? = some (.cells (devC p2 d) 79 (0, 0))
  sec : SecsIs wr p2.G 92 (d.n * 259) (fun j => secV d (fun a => if a < i then p2.m a else old a) (j / 259) (j % 259))
  wts : wr.ownsRow w.heap.size 87 257 p2.V d.W.length (wtsL d.W)
  ms : ∀ a, a < i → MissIs wr (p2.m a) (d.miss a)
  inj : ∀ a b, a < i → b < i → ∀ j, (p2.m a).ownBlock = some j → (p2.m b).ownBlock = some j → a = b
  lowB : w.heap.size ≤ p2.B
  lowG : w.heap.size ≤ p2.G
  lowM : ∀ a, a < i → ∀ j, (p2.m a).ownBlock = some j → w.heap.size ≤ j
section
variable {w wr wa : World} {p2 : Ph} {d : Dev} {old : Nat → Value} {i : Nat}
theorem CopySt.BG (h : CopySt w wr p2 d old i) : p2.B ≠ p2.G := by
  obtain ⟨c, hc, _⟩ := h.sec
  exact cells_ne h.blk hc (by decide)
theorem CopySt.gr (h : CopySt w wr p2 d old i) (k : Ch (fun _ => False) wr wa) : CopySt w wa p2 d old i :=
  ⟨h.ch.trans k, (k.block _ (blk_lt h.blk) (fun f => f)).trans h.blk, h.sec.of_block (k.block _ h.sec.lt (fun f => f)), own_of h.wts (fun j hj => k.block j (by obtain ⟨_, c, hc⟩ := own_at h.wts hj; exact blk_lt hc) (fun f => f)),
    fun a ha => (h.ms a ha).of (fun j hj => k.block j (by obtain ⟨c, hc⟩ := (h.ms a ha).at hj; exact blk_lt hc) (fun f => f)), h.inj, h.lowB, h.lowG, h.lowM⟩
theorem CopySt.next (h : CopySt w wr p2 d old i) (hi : i < d.n) (k : Ch (fun _ => False) wr wa) {v : Value} (hm : MissIs wa v (d.miss i)) (hv : ∀ j, v.ownBlock = some j → wr.heap.size ≤ j) :
    CopySt w (wa.setCell ⟨p2.G, i * 259 + 258, none⟩ v) { p2 with m := up p2.m i v } d old (i + 1) := by
  have g := h.gr k
  have e : ∀ j, j ≠ p2.G → (wa.setCell ⟨p2.G, i * 259 + 258, none⟩ v).heap[j]? = wa.heap[j]? := fun j hj => by
    simp only [World.setCell]
    rw [Array.getElem?_modify, if_neg (fun q => hj q.symm)]
  have nG : ∀ {u : Value} {l : List Nat}, MissIs wa u l → ∀ j, u.ownBlock = some j → j ≠ p2.G := fun hu j hj q => by
    obtain ⟨c, hc⟩ := hu.at hj
    obtain ⟨c2, hc2, _⟩ := g.sec
    exact cells_ne hc hc2 (by decide) q
  have far : ∀ a, a < i → ∀ j, (p2.m a).ownBlock = some j → ¬ v.ownBlock = some j := fun a ha j hj hj2 => by
    obtain ⟨c, hc⟩ := (h.ms a ha).at hj
    have := blk_lt hc
    have := hv j hj2
    omega
  refine ⟨g.ch.setCell (p := ⟨p2.G, i * 259 + 258, none⟩) (Or.inr h.lowG) _, (e _ g.BG).trans g.blk, ?_, own_of g.wts (fun j hj => e j (fun q => by
    obtain ⟨_, c, hc⟩ := own_at g.wts hj
    obtain ⟨c2, hc2, _⟩ := g.sec
    exact cells_ne hc hc2 (by decide) q)), ?_, ?_, h.lowB, h.lowG, ?_⟩
  · refine (g.sec.set (i * 259 + 258) v).congr fun j hj => ?_
    have hdm := Nat.div_add_mod j 259
    have hlt := Nat.mod_lt j (show 0 < 259 by omega)
    unfold secV
    by_cases q : j = i * 259 + 258
    · rw [if_pos q, show j / 259 = i by omega, show j % 259 = 258 by omega]
      show v = if i < i + 1 then up p2.m i v i else old i
      rw [if_pos (by omega), up_same]
    · rw [if_neg q]
      by_cases q1 : j % 259 < 256
      · rw [if_pos q1, if_pos q1]
      · by_cases q2 : j % 259 = 256
        · rw [if_neg q1, if_neg q1, if_pos q2, if_pos q2]
        · by_cases q3 : j % 259 = 257
          · rw [if_neg q1, if_neg q1, if_neg q2, if_neg q2, if_pos q3, if_pos q3]
          · rw [if_neg q1, if_neg q1, if_neg q2, if_neg q2, if_neg q3, if_neg q3]
            show (if j / 259 < i then p2.m (j / 259) else old (j / 259)) = if j / 259 < i + 1 then up p2.m i v (j / 259) else old (j / 259)
            have hne : j / 259 ≠ i := by omega
            rw [up_other _ _ hne]
            by_cases q4 : j / 259 < i
            · rw [if_pos q4, if_pos (by omega)]
            · rw [if_neg q4, if_neg (by omega)]
  · intro a ha
    show MissIs _ (up p2.m i v a) (d.miss a)
    by_cases q : a = i
    · rw [q, up_same]
      exact hm.of (fun j hj => e j (nG hm j hj))
    · rw [up_other _ _ q]
      have hma := g.ms a (by omega)
      exact hma.of (fun j hj => e j (nG hma j hj))
  · intro a b ha hb j hja hjb
    change (up p2.m i v a).ownBlock = some j at hja
    change (up p2.m i v b).ownBlock = some j at hjb
    by_cases q : a = i
    · by_cases q2 : b = i
      · rw [q, q2]
      · rw [q, up_same] at hja
        rw [up_other _ _ q2] at hjb
        exact (far b (by omega) j hjb hja).elim
    · by_cases q2 : b = i
      · rw [q2, up_same] at hjb
        rw [up_other _ _ q] at hja
        exact (far a (by omega) j hja hjb).elim
      · rw [up_other _ _ q] at hja
        rw [up_other _ _ q2] at hjb
        exact h.inj a b (by omega) (by omega) j hja hjb
  · intro a ha j hj
    change (up p2.m i v a).ownBlock = some j at hj
    by_cases q : a = i
    · rw [q, up_same] at hj
      exact Nat.le_trans h.ch.size (hv j hj)
    · rw [up_other _ _ q] at hj
      exact h.lowM a (by omega) j hj
theorem CopySt.done {base : Nat} {p : Ph} {w0 : World} (h : CopySt w wr p2 d old d.n) (k : DevIs base w0 p d) : DevIs w.heap.size wr p2 d :=
  ⟨h.blk, h.sec.congr (fun j hj => by
    have : j / 259 < d.n := by omega
    unfold secV
    show (if _ then _ else if _ then _ else if _ then _ else if j / 259 < d.n then p2.m (j / 259) else old (j / 259)) = _
    rw [if_pos this]), h.wts, h.ms, h.inj, h.lowB, h.lowG, h.lowM, k.byt, k.wok, k.mok, k.nn, k.lf⟩
end
/-! ### the walk -/
theorem info_disk : (Try.prog.info? 79).map (fun i => (i.zero, i.size)) = some (some (.agg #[.slice none 0 0, .slice none 0 0, .bool false, .bool false, .int .i64 0, .int .i64 0]), 6) := by kernel_rfl
theorem info_disk6 : (Try.prog.info? 79).map (·.size) = some 6 := by kernel_rfl
theorem under_disk : ∃ d, Try.prog.underlying 79 = some d ∧ TypeDesc.isRow d = true := ⟨_, Try.underlying79, rfl⟩
def zeroD : Array Value := #[.slice none 0 0, .slice none 0 0, .bool false, .bool false, .int .i64 0, .int .i64 0]
theorem zero_disk (w : World) : (zeroValue 79).run Try.prog w = .ok (.agg zeroD) w := by
  cases hq : Try.prog.info? 79 with
  | none => have := info_disk; rw [hq] at this; cases this
  | some i0 =>
    have := info_disk
    rw [hq] at this
    simp only [Option.map_some, Option.some.injEq, Prod.mk.injEq] at this
    simp [zeroValue, typeInfo, hq, this.1, zeroD]
/-- A copy is laid into a variable of its own. -/
structure HeadR (w wz w1 : World) (N : Nat) (p : Ph) (d : Dev) : Prop where
  ld : (loadVar 79 ⟨p.B, 0, none⟩).run Try.prog w = .ok (.agg (devC p d)) w
  al : w.alloc (.cells zeroD 79) = wz
  sz : w.heap.size = N
  st : (storeVar 79 ⟨N, 0, none⟩ (.agg (devC p d))).run Try.prog wz = .ok () w1
  blk : w1.heap[N]? = some (.cells (devC p d) 79 (0, 0))
  ch : Ch (fun _ => False) w w1
theorem headR {base : Nat} {w : World} {p : Ph} {d : Dev} (h : DevIs base w p d) : ∃ wz w1 N, HeadR w wz w1 N p d := by
  refine ⟨_, w.alloc (.cells (devC p d) 79), w.heap.size, ?_, rfl, rfl, ?_, heap_alloc_new _ _, (Ch.refl _ w).alloc _ _⟩
  · obtain ⟨dsc, hd, hr2⟩ := under_disk
    have := run_loadVar_mid (P := Try.prog) w p.B 0 _ (devC p d).toList dsc (fun j v hv => by rw [Nat.zero_add, h.cellB, ← Array.getElem?_toList]; exact hv) hd hr2 (by rw [info_disk6]; rfl)
    simpa using this
  · obtain ⟨A, C, hv⟩ := h.vform
    exact run_storeVar_new (P := Try.prog) w _ _ _ (by rw [info_disk6]; rfl) rfl (by unfold devC; rw [hv]; simp [Value.oneCell'])
/-- The answer of Copy. -/
def CopyPost (d : Dev) (w : World) (e : Ending) (w' : World) : Prop := ∃ p2, e = .returned (.pointer (some ⟨p2.B, 0, none⟩)) ∧ DevIs w.heap.size w' p2 d ∧ Ch (fun _ => False) w w'
set_option maxHeartbeats 1600000 in
set_option maxRecDepth 100000 in
theorem copy_any (base : Nat) (p : Ph) (d : Dev) (w : World) (h : DevIs base w p d) (hW : d.W.length ≤ 1048576) (hM : ∀ a, a < d.n → (d.miss a).length ≤ 1048576) :
    Calls Try.prog 22 #[.pointer (some ⟨p.B, 0, none⟩)] w (CopyPost d w) := by
  obtain ⟨wz, w1, N, hR⟩ := headR h
  have HR := Lib.hid hR
  have h1 : DevIs base w1 p d := h.gr hR.ch
  obtain ⟨A, C, hv⟩ := h1.vform
  have c1 : w1.cell? ⟨p.B, 1, none⟩ = some p.V := h1.cellB 1
  rw [hv] at c1
  have hw1 := h1.wts
  rw [hv] at hw1
  have HCW := Lib.hid (cloneWv hw1 (fun u hu => by
    unfold wtsL at hu
    obtain ⟨x, _, hx⟩ := List.mem_flatMap.1 hu
    exact wtC_one x u hx) hW)
  have n1 : w1.cell? ⟨N, 1, none⟩ = some (.slice A d.W.length C) := by rw [blk_cell hR.blk]; unfold devC; rw [hv]; rfl
  have HM := Lib.hid hM
  have H := Lib.hid h
  obtain ⟨L, hL⟩ : ∃ L, L = d.W.length := ⟨_, rfl⟩
  rw [← hL] at c1 n1 HCW
  have HL := Lib.hid hL
  have H1 := Lib.hid h1
  obtain ⟨B, G, V, m, cG⟩ := p
  clear h h1 hR hv hw1 hM hW hL
  go_enter Try.func22, Try.ntmps22
  go_wp2_with ((with_reducible refine wpList_same ?_); first
      | refine wpList_loading _ rfl 79 (.tmp 8) rfl (.agg (devC ⟨B, G, V, m, cG⟩ d)) ⟨B, 0, none⟩ rfl (by exact HR.out.ld) ?_
      | refine wpList_making _ wz rfl 79 rfl zeroD N (by exact zero_disk _) (by exact HR.out.sz) (by exact HR.out.al) ?_
      | refine wpList_storing _ w1 rfl 79 (.tmp 3) (.tmp 9) rfl (.agg (devC ⟨B, G, V, m, cG⟩ d)) ⟨N, 0, none⟩ rfl rfl (by exact HR.out.st) ?_)
  refine HCW.out.mono ?_
  rintro e w2 ⟨A2, C2, rfl, h2, k2⟩
  have hBN : B ≠ N := fun e => by
    have := blk_lt H.out.blk
    have := HR.out.sz
    simp only at *
    omega
  have b2 : w2.heap[N]? = some (.cells (devC ⟨B, G, V, m, cG⟩ d) 79 (0, 0)) := (k2.block N (blk_lt HR.out.blk) (fun f => f)).trans HR.out.blk
  have n2 : w2.cell? ⟨N, 1, none⟩ = some (.slice A L C) := k2.cell n1 (fun f => f)
  have f2 : w2.frozen? ⟨N, 1, none⟩ = false := blk_frozen b2
  obtain ⟨w3, hw3⟩ : ∃ w3, w3 = w2.setCell ⟨N, 1, none⟩ (.slice A2 L C2) := ⟨_, rfl⟩
  have b3 : w3.heap[N]? = some (.cells (devC ⟨B, G, .slice A2 L C2, m, cG⟩ d) 79 (0, 0)) := by rw [hw3, blk_set b2]; rfl
  have kNS : Ch (fun i => i = N) w2 w3 := by rw [hw3]; exact Ch.setCell (S := fun i => i = N) (Ch.refl _ w2) (p := ⟨N, 1, none⟩) (Or.inl rfl) _
  have k3 : Ch (fun _ => False) w w3 := by
    rw [hw3]
    exact (HR.out.ch.trans k2).setCell (p := ⟨N, 1, none⟩) (Or.inr (Nat.le_of_eq HR.out.sz)) _
  have h3 : DevIs base w3 ⟨B, G, V, m, cG⟩ d := H.out.gr k3
  have c03 : w3.cell? ⟨B, 0, none⟩ = some (.slice (some ⟨G, 0, none⟩) d.n cG) := h3.cellB 0
  have n03 : w3.cell? ⟨N, 0, none⟩ = some (.slice (some ⟨G, 0, none⟩) d.n cG) := blk_cell b3
  have o3 : w3.ownsRow w1.heap.size 87 257 (.slice A2 L C2) L (wtsL d.W) := own_of h2 (fun i hi => kNS.block i (by obtain ⟨_, c, hc⟩ := own_at h2 hi; exact blk_lt hc) (fun e => by
    obtain ⟨hge, _⟩ := own_at h2 hi
    have := blk_lt HR.out.blk
    omega))
  have HCS := Lib.hid (cloneSv h3)
  have c03e : (w2.setCell ⟨N, 1, none⟩ (.slice A2 L C2)).cell? ⟨B, 0, none⟩ = some (.slice (some ⟨G, 0, none⟩) d.n cG) := by rw [← hw3]; exact c03
  have HW3 := Lib.hid hw3.symm
  have B3 := Lib.hid b3
  have K3 := Lib.hid k3
  have O3 := Lib.hid o3
  have HBN := Lib.hid hBN
  clear hw3 b3 kNS k3 o3 h3 h2 k2 b2 n1 c1 hBN HCW
  go_wp2_with fail
  rw [HW3.out]
  refine HCS.out.mono ?_
  rintro e w4 ⟨g, c, rfl, hg, hs, k4⟩
  have hNg : N ≠ g := fun e => by
    have := blk_lt B3.out
    omega
  have b4 : w4.heap[N]? = some (.cells (devC ⟨B, G, .slice A2 L C2, m, cG⟩ d) 79 (0, 0)) := (k4.block N (blk_lt B3.out) (fun f => f)).trans B3.out
  have n4 : w4.cell? ⟨N, 0, none⟩ = some (.slice (some ⟨G, 0, none⟩) d.n cG) := k4.cell n03 (fun f => f)
  have f4 : w4.frozen? ⟨N, 0, none⟩ = false := blk_frozen b4
  obtain ⟨w5, hw5⟩ : ∃ w5, w5 = w4.setCell ⟨N, 0, none⟩ (.slice (some ⟨g, 0, none⟩) d.n c) := ⟨_, rfl⟩
  have b5 : w5.heap[N]? = some (.cells (devC ⟨N, g, .slice A2 L C2, m, c⟩ d) 79 (0, 0)) := by rw [hw5, blk_set b4]; rfl
  have n5 : w5.cell? ⟨N, 0, none⟩ = some (.slice (some ⟨g, 0, none⟩) d.n c) := blk_cell b5
  have n5e : (w4.setCell ⟨N, 0, none⟩ (.slice (some ⟨g, 0, none⟩) d.n c)).cell? ⟨N, 0, none⟩ = some (.slice (some ⟨g, 0, none⟩) d.n c) := by rw [← hw5]; exact n5
  have e5 : ∀ j, j ≠ N → w5.heap[j]? = w4.heap[j]? := fun j hj => by
    rw [hw5]
    simp only [World.setCell]
    rw [Array.getElem?_modify, if_neg (fun q => hj q.symm)]
  have hS5 : CopySt w w5 ⟨N, g, .slice A2 L C2, m, c⟩ d m 0 := by
    refine ⟨?_, b5, ?_, ?_, fun a ha => absurd ha (Nat.not_lt_zero a), fun a b ha => absurd ha (Nat.not_lt_zero a), Nat.le_of_eq HR.out.sz, Nat.le_trans K3.out.size hg, fun a ha => absurd ha (Nat.not_lt_zero a)⟩
    · rw [hw5]
      exact (K3.out.trans k4).setCell (p := ⟨N, 0, none⟩) (Or.inr (Nat.le_of_eq HR.out.sz)) _
    · refine (hs.of_block (e5 g hNg.symm)).congr fun i hi => ?_
      unfold secV
      simp
    · have hO : w4.ownsRow w1.heap.size 87 257 (.slice A2 L C2) L (wtsL d.W) := own_of O3.out (fun i hi => k4.block i (by obtain ⟨_, c, hc⟩ := own_at O3.out hi; exact blk_lt hc) (fun f => f))
      rw [← HL.out]
      have hO2 := own_of (w' := w5) hO (fun i hi => e5 i (fun e => by
        obtain ⟨hge, _⟩ := own_at hO hi
        have := blk_lt HR.out.blk
        omega))
      refine ⟨hO2.1, hO2.2.imp id ?_⟩
      rintro ⟨g', cap, cur, e1, e2, e3⟩
      exact ⟨g', cap, cur, e1, Nat.le_trans HR.out.ch.size e2, e3⟩
  have HS5 := Lib.hid hS5
  have HW5 := Lib.hid hw5.symm
  clear hS5 e5 b5 b4 hw5 hNg hs hg k4 B3 K3 O3
  have n0 : (0 : Int) ≤ (d.n : Int) := Int.natCast_nonneg _
  go_wp2_with fail
  rw [HW5.out]
  clear n5e f4 n4 n03 HW5
  go_loopw [4, 25] (fun _ i wr => ∃ k : Nat, k ≤ d.n ∧ i = .int .i64 k ∧ Hid (∃ m2, CopySt w wr ⟨N, g, .slice A2 L C2, m2, c⟩ d m k)) (fun _ i _ => d.n - (intOf i).toNat)
  case atStart => exact ⟨0, Nat.zero_le _, rfl, Lib.hid ⟨m, HS5.out⟩⟩
  case round =>
    obtain ⟨k, hk, rfl, HK⟩ := hrel
    obtain ⟨m2, hK⟩ := HK.out
    by_cases hlt : k < d.n
    · have hD : DevIs base wr ⟨B, G, V, m, cG⟩ d := H.out.gr hK.ch
      obtain ⟨Am, nm, Cm, em⟩ := hD.mform hlt
      change m k = .slice Am nm Cm at em
      have q0 : wr.cell? ⟨N, 0, none⟩ = some (.slice (some ⟨g, 0, none⟩) d.n c) := blk_cell hK.blk
      have qB : wr.cell? ⟨B, 0, none⟩ = some (.slice (some ⟨G, 0, none⟩) d.n cG) := hD.cellB 0
      have qM : wr.cell? ⟨G, k * 259 + 258, none⟩ = some (.slice Am nm Cm) := by
        rw [← em]
        exact hD.cellG hlt (by omega : 258 < 259)
      have HCL : Hid (∀ wx, Ch (fun _ => False) wr wx → Calls Try.prog 40 #[.slice Am nm Cm] wx fun e w' => ∃ A' n' C', e = .returned (.slice A' n' C') ∧ MissIs w' (.slice A' n' C') (d.miss k) ∧ Ch (fun _ => False) wx w' ∧ ∀ j, (Value.slice A' n' C').ownBlock = some j → wx.heap.size ≤ j) := fun wx kx => by
        have hm := (hD.gr kx).ms k hlt
        change MissIs wx (m k) _ at hm
        rw [em] at hm
        refine (cloneM _ _ wx hm (HM.out k hlt)).mono ?_
        rintro e w' ⟨v', e1, e2, e3⟩
        rcases e2 with ⟨rfl, e4⟩ | ⟨b, o, cap, cc, rfl, e4⟩
        · exact ⟨_, _, _, e1, Or.inl ⟨rfl, e4⟩, e3⟩
        · exact ⟨_, _, _, e1, Or.inr ⟨b, o, cap, cc, rfl, e4⟩, e3⟩
      have HNX : Hid (∀ wa A' n' C', Ch (fun _ => False) wr wa → MissIs wa (.slice A' n' C') (d.miss k) → (∀ j, (Value.slice A' n' C').ownBlock = some j → wr.heap.size ≤ j) → CopySt w (wa.setCell ⟨g, k * 259 + 258, none⟩ (.slice A' n' C')) ⟨N, g, .slice A2 L C2, up m2 k (.slice A' n' C'), c⟩ d m (k + 1)) := fun wa A' n' C' e1 e2 e3 => hK.next hlt e1 e2 e3
      have HBG := Lib.hid hK.BG
      have HFG : Hid (∀ wa, Ch (fun _ => False) wr wa → wa.frozen? ⟨g, k * 259 + 258, none⟩ = false ∧ ∃ u, wa.cell? ⟨g, k * 259 + 258, none⟩ = some u) := fun wa ka => by
        have hh := (hK.gr ka).sec
        exact ⟨hh.frozen _, _, hh.cell (i := k * 259 + 258) (by have := Nat.mul_le_mul_right 259 (show k + 1 ≤ d.n from hlt); omega)⟩
      have hgB : g ≠ B := fun e => by
        have := hK.lowG
        have := blk_lt H.out.blk
        simp only at *
        omega
      have hgG : g ≠ G := fun e => by
        have := hK.lowG
        have := H.out.sec.lt
        simp only at *
        omega
      have hNg : g ≠ N := fun e => hK.BG e.symm
      have i1 : (0 : Int) ≤ (k : Int) := Int.natCast_nonneg _
      have i2 : (k : Int) < (d.n : Int) := by omega
      have HKN := Lib.hid hlt
      clear hD hK HK em HBG
      go_wp2
      go_region_held3 (fun w' => w'.cell? ⟨N, 0, none⟩ = some (.slice (some ⟨g, 0, none⟩) d.n c) ∧ w'.cell? ⟨B, 0, none⟩ = some (.slice (some ⟨G, 0, none⟩) d.n cG) ∧ w'.cell? ⟨G, k * 259 + 258, none⟩ = some (.slice Am nm Cm)) (first | go_keep | exact ⟨ka, kb, kc⟩ | exact ⟨kd, ke, kf⟩)
        (first | (go_at_call 40; refine (HCL.out _ (Ch.refl _ _).drew).mono ?_; rintro e wa ⟨A', n', C', rfl, hm, hk2, hv2⟩; have kw := (Ch.refl (fun _ => False) wr).drew.trans hk2; have ka := kw.cell q0 (fun f => f); have kb := kw.cell qB (fun f => f); have kc := kw.cell qM (fun f => f); obtain ⟨ff, u, fu⟩ := HFG.out wa kw; have kd : (wa.setCell ⟨g, k * 259 + 258, none⟩ (.slice A' n' C')).cell? ⟨N, 0, none⟩ = some (.slice (some ⟨g, 0, none⟩) d.n c) := (World.cell?_setCell_other _ _ _ _ (fun e => hNg (congrArg Addr.block e))).trans ka; have ke : (wa.setCell ⟨g, k * 259 + 258, none⟩ (.slice A' n' C')).cell? ⟨B, 0, none⟩ = some (.slice (some ⟨G, 0, none⟩) d.n cG) := (World.cell?_setCell_other _ _ _ _ (fun e => hgB (congrArg Addr.block e))).trans kb; have kf : (wa.setCell ⟨g, k * 259 + 258, none⟩ (.slice A' n' C')).cell? ⟨G, k * 259 + 258, none⟩ = some (.slice Am nm Cm) := (World.cell?_setCell_other _ _ _ _ (fun e => hgG (congrArg Addr.block e))).trans kc))
      all_goals
        have HN := Lib.hid (HNX.out wa A' n' C' kw hm hv2)
        clear kw ka kb kc kd ke kf hm hv2 hk2
        have l1 := HKN.out
        have l2 := H.out.nn.2
        go_wp2
        go_roundw
        case rel => exact ⟨k + 1, HKN.out, by go_num, Lib.hid ⟨_, HN.out⟩⟩
        case measure =>
          have := HKN.out
          simp [intOf]
          omega
    · obtain rfl : k = d.n := by omega
      have HP := Lib.hid (show CopyPost d w (.returned (.pointer (some ⟨N, 0, none⟩))) wr from ⟨⟨N, g, .slice A2 L C2, m2, c⟩, rfl, hK.done H.out, hK.ch⟩)
      clear hK HK
      go_wp2
      go_ret
      exact HP.out
#print axioms CopySt.next
#print axioms CopySt.done
#print axioms copy_any
end Go.Proofs.Ytjibfoplihaabaa
