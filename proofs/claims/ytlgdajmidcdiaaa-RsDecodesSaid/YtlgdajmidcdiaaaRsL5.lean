/-
  RsAny, walked.
-/
import Derived.Test.YtlgdajmidcdiaaaRsL0
import Derived.Deep.DeepCutAuto
namespace Go.Proofs.Ytlgdajmidcdiaaa
open Go.RowKit
set_option linter.unusedVariables false

/-! ### two lists that are built side by side -/
def upF (F : Nat → Value) (i : Nat) (u : Value) (r : Nat) : Value := if r = i then u else F r
theorem vals_up (F : Nat → Value) (i : Nat) (u : Value) : valsL (i + 1) (upF F i u) = valsL i F ++ [u] := by
  unfold valsL
  rw [List.range_succ, List.map_append]
  congr 1
  · exact List.map_congr_left fun r hr => by unfold upF; rw [if_neg (by have := List.mem_range.1 hr; omega)]
  · simp [upF]
theorem vals_congr {n : Nat} {F G : Nat → Value} (h : ∀ r, r < n → F r = G r) : valsL n F = valsL n G := List.map_congr_left fun r hr => h r (List.mem_range.1 hr)
theorem owns_set {W : World} {base : Nat} {e : TypeId} {g n cap i : Nat} {F : Nat → Value} (h : W.ownsRow base e 1 (.slice (some ⟨g, 0, none⟩) n cap) n (valsL n F)) (hi : i < n) (u : Value) : (W.setCell ⟨g, i, none⟩ u).ownsRow base e 1 (.slice (some ⟨g, 0, none⟩) n cap) n (valsL n (upF F i u)) := by
  refine ⟨by unfold valsL; simp, ?_⟩
  rcases h.2 with ⟨hn, _⟩ | ⟨g', cap', cur, he, hb, hgg, hcap, hm, hs, ht⟩
  · cases hn
  · injection he with he1 he2 he3
    injection he1 with he1
    injection he1 with he4
    subst he4
    subst he3
    refine Or.inr ⟨g, cap, cur.setIfInBounds i u, rfl, hb, ?_, hcap, hm, by simpa using hs, ?_⟩
    · simp [World.setCell, Array.getElem?_modify, hgg]
    · refine List.ext_getElem? fun j => ?_
      rw [Nat.mul_one, List.getElem?_take]
      by_cases hj : j < n
      · rw [if_pos hj, valsL_get hj, Array.getElem?_toList, Array.getElem?_setIfInBounds]
        have hcj : cur[j]? = some (F j) := by
          have := congrArg (fun l : List Value => l[j]?) ht
          simp only [Nat.mul_one, List.getElem?_take, if_pos hj, Array.getElem?_toList] at this
          rw [this]; exact valsL_get hj
        unfold upF
        by_cases q : i = j
        · rw [if_pos q, if_pos q.symm, if_pos (by omega)]
        · rw [if_neg q, if_neg (fun e => q e.symm)]; exact hcj
      · rw [if_neg hj, List.getElem?_eq_none (by unfold valsL; simp; omega)]
theorem owns_elsewhere {w : World} {base : Nat} {e : TypeId} {v : Value} {n : Nat} {xs : List Value} (h : w.ownsRow base e 1 v n xs) {p : Addr} (hp : v.ownBlock ≠ some p.block) (u : Value) : (w.setCell p u).ownsRow base e 1 v n xs := by
  refine ⟨h.1, ?_⟩
  rcases h.2 with hn | ⟨g, cap, cur, rfl, hb, hgg, rest⟩
  · exact Or.inl hn
  · exact Or.inr ⟨g, cap, cur, rfl, hb, (Below.heap_setCell w p u g (fun e => hp (by rw [e]; rfl))).trans hgg, rest⟩
theorem owns_at {w : World} {base : Nat} {e : TypeId} {g n cap i : Nat} {F : Nat → Value} (h : w.ownsRow base e 1 (.slice (some ⟨g, 0, none⟩) n cap) n (valsL n F)) (hi : i < n) : w.cell? ⟨g, i, none⟩ = some (F i) ∧ w.frozen? ⟨g, i, none⟩ = false := by
  constructor
  · have := World.ownsRow.cells h (g := g) rfl i (F i) (valsL_get hi)
    rwa [add_pl, Nat.zero_add] at this
  · rcases h.2 with ⟨hn, _⟩ | ⟨g', cap', cur, he, hb, hgg, _⟩
    · cases hn
    · injection he with he1 he2 he3
      injection he1 with he1
      injection he1 with he4
      subst he4
      simp [World.frozen?, hgg]
structure TwoRel (w4 W : World) (vx : Value) (i : Nat) (Fx : Nat → Value) (vy : Value) (j : Nat) (Fy : Nat → Value) : Prop where
  ch : Ch (fun _ => False) w4 W
  x : W.ownsRow w4.heap.size /-t-/33 1 vx i (valsL i Fx)
  y : W.ownsRow w4.heap.size /-t-/33 1 vy j (valsL j Fy)
  ap : ∀ q, vx.ownBlock = some q → vy.ownBlock ≠ some q
theorem TwoRel.flip {w4 W : World} {vx vy : Value} {i j : Nat} {Fx Fy : Nat → Value} (h : TwoRel w4 W vx i Fx vy j Fy) : TwoRel w4 W vy j Fy vx i Fx := ⟨h.ch, h.y, h.x, fun q e1 e2 => h.ap q e2 e1⟩
theorem TwoRel.app {w4 W w5 : World} {vx vy u : Value} {i j g cap : Nat} {Fx Fy : Nat → Value} (h : TwoRel w4 W vx i Fx vy j Fy) (h1 : w5.ownsRow w4.heap.size /-t-/33 1 (.slice (some ⟨g, 0, none⟩) (i + 1) cap) (i + 1) (valsL i Fx ++ [u])) (h2 : (W.alloc (.cells #[u] /-t-/33)).grownBy w5 vx.ownBlock) (h3 : vx.ownBlock = some g ∨ g = W.heap.size + 1) :
    TwoRel w4 w5 (.slice (some ⟨g, 0, none⟩) (i + 1) cap) (i + 1) (upF Fx i u) vy j Fy := by
  refine ⟨(h.ch.alloc _ _).grown h2 (fun i hi => Or.inr (World.ownsRow.lt h.x i hi).1), by rw [vals_up]; exact h1, (h.y.alloc _).kept h2 ?_, fun q hq e => ?_⟩
  · cases hv : vy.ownBlock with
    | none => exact Or.inl rfl
    | some q => exact Or.inr fun e => h.ap q e.symm hv
  · have e' : g = q := by simpa [Value.ownBlock] using hq
    rcases h3 with h3 | h3
    · exact h.ap g h3 (by rw [e']; exact e)
    · have := (World.ownsRow.lt h.y q e).2
      omega
theorem TwoRel.set {w4 W : World} {vy u : Value} {n j g cap i : Nat} {Fx Fy : Nat → Value} (h : TwoRel w4 W (.slice (some ⟨g, 0, none⟩) n cap) n Fx vy j Fy) (hi : i < n) (u : Value) : TwoRel w4 (W.setCell ⟨g, i, none⟩ u) (.slice (some ⟨g, 0, none⟩) n cap) n (upF Fx i u) vy j Fy :=
  ⟨h.ch.setCell (p := ⟨g, i, none⟩) (Or.inr (World.ownsRow.lt h.x g rfl).1) _, owns_set h.x hi u, owns_elsewhere h.y (p := ⟨g, i, none⟩) (h.ap g rfl) u, h.ap⟩
theorem TwoRel.congr {w4 W : World} {vx vy : Value} {i j : Nat} {Fx Fy Gx Gy : Nat → Value} (h : TwoRel w4 W vx i Fx vy j Fy) (hx : ∀ r, r < i → Fx r = Gx r) (hy : ∀ r, r < j → Fy r = Gy r) : TwoRel w4 W vx i Gx vy j Gy :=
  ⟨h.ch, by rw [← vals_congr hx]; exact h.x, by rw [← vals_congr hy]; exact h.y, h.ap⟩
def lostF (nb : Nat) (z : Nat → Bool) (G : Nat → Value) (r : Nat) : Value := if r < nb ∧ z r = true then .slice none 0 0 else G r
theorem lostF_stays {nb : Nat} {z : Nat → Bool} {G : Nat → Value} {k : Nat} (h : ¬ (k < nb ∧ z k = true)) : ∀ r, r < k + 1 → upF (lostF nb z G) k (G k) r = lostF nb z G r := fun r _ => by
  unfold upF
  by_cases e : r = k
  · rw [if_pos e, e]; unfold lostF; rw [if_neg h]
  · rw [if_neg e]
theorem lostF_goes {nb : Nat} {z : Nat → Bool} {G : Nat → Value} {k : Nat} (h : k < nb ∧ z k = true) : ∀ r, r < k + 1 → upF (upF (lostF nb z G) k (G k)) k (.slice none 0 0) r = lostF nb z G r := fun r _ => by
  unfold upF
  by_cases e : r = k
  · rw [if_pos e, e]; unfold lostF; rw [if_pos h]
  · rw [if_neg e, if_neg e]
theorem owns_matF {base : Nat} {w : World} {v : Value} {n : Nat} {F : Nat → Value} {L : Nat → Nat} {Z : Nat → Nat → Nat} (h : w.ownsRow base /-t-/33 1 v n (valsL n F)) (hl : n ≤ 140737488351232) (hF : ∀ r, r < n → RowV w (F r) (L r) (Z r)) : MatV w v n L Z := by
  rcases h.2 with ⟨rfl, h0⟩ | ⟨g, cap, cur, rfl, hb, hgg, hcap, hm, hs, ht⟩
  · subst h0; exact nil_mat _ _ _
  · refine ⟨_, _, rfl, ⟨hl, hcap⟩, fun _ => ⟨g, 0, rfl, fun r hr => ⟨F r, ?_, hF r hr⟩⟩⟩
    have := World.ownsRow.cells h (g := g) rfl r (F r) (valsL_get hr)
    rwa [add_pl] at this
theorem lost_mat {base : Nat} {w : World} {v : Value} {n l nb : Nat} {z : Nat → Bool} {G : Nat → Value} {Z : Nat → Nat → Nat} (h : w.ownsRow base /-t-/33 1 v n (valsL n (lostF nb z G))) (hl : n ≤ 140737488351232) (hG : ∀ r, r < n → RowV w (G r) l (Z r)) : MatV w v n (lostL nb z l) Z :=
  owns_matF h hl fun r hr => by
    unfold lostF lostL
    split
    · exact nil_row _ _
    · exact hG r hr
/-! ### Decode of such shares -/
def LostAns (n N l : Nat) (X : Nat → Nat → Nat) (w : World) (e : Ending) (w' : World) : Prop :=
  ∃ (A : Option Addr) (len C : Nat) (k : Int), e = .returned (.tuple #[.slice A len C, .int .i64 k]) ∧ Ch (fun _ => False) w w' ∧ ((k = 0 ∧ MatV w' (.slice A len C) N (fun _ => l) (sharesZ n X)) ∨ k = 9)
theorem decode_lostAns (bs os Cs N n l nb : Nat) (z : Nat → Bool) (X : Nat → Nat → Nat) (hX : AllB X) (w : World) (n1 : 1 ≤ n) (n2 : n ≤ N) (n64 : N ≤ 64) (l1 : 1 ≤ l) (l2 : l ≤ 4096) (hs : MatV w (.slice (some ⟨bs, os, none⟩) N Cs) N (lostL nb z l) (sharesZ n X)) :
    Calls Try.prog 17 #[.slice (some ⟨bs, os, none⟩) N Cs, .int .i64 (n : Int)] w (LostAns n N l X w) := by
  by_cases h : n ≤ (idx (lostL nb z l) N).length
  · refine (decode_yes bs os Cs N n _ _ (shares_b n X) w n1 n2 n64 hs (lost_fits l2) h).mono ?_
    rintro e w6 ⟨D, hD, v6, rfl, hB6, hch6⟩
    rw [lost_long (by omega)] at hD hB6
    have hM6 := (hB6.mat (by omega)).congr (Y := sharesZ n X) fun r c _ hc => lost_back hX n1 n2 n64 h hD r c hc
    obtain ⟨A6, C6, rfl, _⟩ := id hM6
    exact ⟨A6, N, C6, 0, rfl, hch6, Or.inl ⟨rfl, hM6⟩⟩
  · refine (decode_lost bs os Cs N n _ _ w n1 n2 n64 hs (fun q => h q.2)).mono ?_
    rintro e w6 (⟨hno, _⟩ | ⟨_, _, rfl, hch6⟩)
    · exact absurd (lost_fits l2) hno
    · exact ⟨none, 0, 0, 9, rfl, hch6, Or.inr rfl⟩
set_option maxHeartbeats 1600000 in
set_option maxRecDepth 100000 in
theorem rsAny_short (va vb vc : Value) (n : Nat) (L : Nat → Nat) (X : Nat → Nat → Nat) (m : Int) (w : World) (ha : MatV w va n L X) (h : ¬ (lightB n L = true ∧ mayB n L = true ∧ n ≤ 12 ∧ 0 ≤ m ∧ m ≤ 8)) : Calls Try.prog 8 #[va, .int .i64 m, vb, vc] w (Told w) := by
  obtain ⟨A, Ca, rfl, na, _⟩ := id ha
  have HA := Lib.hid ha
  have HH := Lib.hid h
  clear ha h
  go_enter Try.func8, Try.ntmps8
  go_wp2_with fail
  refine (awake_any _).mono ?_
  rintro e w1 ⟨rfl, hch1⟩
  have HA1 := Lib.hid (HA.out.gr hch1)
  have HC1 := Lib.hid hch1
  clear hch1
  go_wp2_with fail
  refine (light_any _ n L X _ HA1.out).mono ?_
  rintro e w2 ⟨rfl, rfl⟩
  go_wp2_with fail
  refine (rmay_any _ n L X _ HA1.out).mono ?_
  rintro e w3 ⟨rfl, d3, rfl⟩
  cases f1 : lightB n L with
  | false =>
    go_wp2
    go_ret
    exact ⟨rfl, HC1.out.drewN _⟩
  | true =>
  cases f2 : mayB n L with
  | false =>
    go_wp2
    go_ret
    exact ⟨rfl, HC1.out.drewN _⟩
  | true =>
  by_cases h5 : n ≤ 12
  case neg =>
    have t5 : decide ((12 : Int) < (n : Int)) = true := by simp; omega
    go_wp2
    go_ret
    exact ⟨rfl, HC1.out.drewN _⟩
  have t5 : decide ((12 : Int) < (n : Int)) = false := by simp; omega
  by_cases h3 : 0 ≤ m
  case neg =>
    have t3 : decide (m < 0) = true := by simp; omega
    go_wp2
    go_ret
    exact ⟨rfl, HC1.out.drewN _⟩
  have t3 : decide (m < 0) = false := by simp; omega
  have t4 : decide (8 < m) = true := by
    have := HH.out
    simp
    by_cases q : m ≤ 8
    · exact absurd ⟨f1, f2, h5, h3, q⟩ this
    · omega
  go_wp2
  go_ret
  exact ⟨rfl, HC1.out.drewN _⟩
#print axioms rsAny_short
theorem bit_cases {nb k : Nat} (z : Nat → Bool) : (¬ k < nb) ∨ (k < nb ∧ z k = false) ∨ (k < nb ∧ z k = true) := by
  by_cases q : k < nb
  · cases h : z k with
    | false => exact Or.inr (Or.inl ⟨q, rfl⟩)
    | true => exact Or.inr (Or.inr ⟨q, rfl⟩)
  · exact Or.inl q
set_option maxHeartbeats 6400000 in
set_option maxRecDepth 100000 in
theorem rsAny_main (b o C n m : Nat) (L : Nat → Nat) (X : Nat → Nat → Nat) (hX : AllB X) (Aa : Option Addr) (na Ca : Nat) (za : Nat → Bool) (Ab : Option Addr) (nb Cb : Nat) (zb : Nat → Bool) (w : World) (ha : MatV w (.slice (some ⟨b, o, none⟩) n C) n L X) (hza : BitsV w (.slice Aa na Ca) na za) (hzb : BitsV w (.slice Ab nb Cb) nb zb) (f1 : lightB n L = true) (f2 : mayB n L = true) (n12 : n ≤ 12) (hm : m ≤ 8) :
    Calls Try.prog 8 #[.slice (some ⟨b, o, none⟩) n C, .int .i64 (m : Int), .slice Aa na Ca, .slice Ab nb Cb] w (Told w) := by
  obtain ⟨n1, _, l1, l2, hL⟩ := mayB_true f2
  obtain ⟨Aa', Ca', ea, hna, hac⟩ := hza
  injection ea with ea1 ea2 ea3
  subst ea1
  obtain ⟨Ab', Cb', eb, hnb, hbc⟩ := hzb
  injection eb with eb1 eb2 eb3
  subst eb1
  have HZA := Lib.hid hac
  have HZB := Lib.hid hbc
  have HNA := Lib.hid hna
  have HNB := Lib.hid hnb
  have HA := Lib.hid ha
  have HX := Lib.hid hX
  have F1 := Lib.hid f1
  have F2 := Lib.hid f2
  have t3 : decide ((m : Int) < 0) = false := by simp
  have t4 : decide ((8 : Int) < (m : Int)) = false := by simp; omega
  have t5 : decide ((12 : Int) < (n : Int)) = false := by simp; omega
  obtain ⟨l, hl⟩ : ∃ l, l = L 0 := ⟨_, rfl⟩
  have HLL := Lib.hid hl
  rw [← hl] at l1 l2
  obtain ⟨i0, hi, hz0, hz1, hz2⟩ := info_parts Try.info33
  clear ha hX f1 f2 hL hac hbc ea2 ea3 eb2 eb3 hl hna hnb
  go_enter Try.func8, Try.ntmps8
  go_wp2_with fail
  refine (awake_any _).mono ?_
  rintro e w1 ⟨rfl, hch1⟩
  have HA1 := Lib.hid (HA.out.gr hch1)
  have HC1 := Lib.hid hch1
  clear hch1
  go_wp2_with fail
  refine (light_any _ n L X _ HA1.out).mono ?_
  rintro e w2 ⟨rfl, rfl⟩
  rw [F1.out]
  go_wp2_with fail
  refine (rmay_any _ n L X _ HA1.out).mono ?_
  rintro e w3 ⟨rfl, d3, rfl⟩
  rw [F2.out]
  go_wp2_with fail
  refine (encode_new _ n m L X _ (HA1.out.drewN _) F2.out (by omega)).mono ?_
  rintro e w2 ⟨u, rfl, hB, hch2⟩
  have hC2 : Ch (fun _ => False) w w2 := (HC1.out.drewN _).trans hch2
  obtain ⟨v1, w3, v2, w4, hr1, hr2, hB2, hch4⟩ := all_at HX.out (HA.out.gr hC2) F2.out hB (by omega)
  rw [← HLL.out] at hB2
  obtain ⟨g, Cg, rfl, hrows⟩ := all_rows hB2 (by omega)
  obtain ⟨G, hG⟩ : ∃ G : Nat → Value, ∀ r, r < n + m → (∃ A D, G r = .slice A l D) ∧ w4.cell? ⟨g, r, none⟩ = some (G r) ∧ RowV w4 (G r) l (sharesZ n X r) := by
    refine ⟨fun r => (w4.cell? ⟨g, r, none⟩).getD (.bool false), fun r hr => ?_⟩
    obtain ⟨A, D, c, hv, _⟩ := hrows r hr
    have e : (w4.cell? ⟨g, r, none⟩).getD (.bool false) = .slice A l D := by rw [c]; rfl
    refine ⟨⟨A, D, e⟩, ?_, ?_⟩
    · show w4.cell? ⟨g, r, none⟩ = some ((w4.cell? ⟨g, r, none⟩).getD (.bool false))
      rw [e]; exact c
    · show RowV w4 ((w4.cell? ⟨g, r, none⟩).getD (.bool false)) l (sharesZ n X r)
      rw [e]; exact hv
  have HR1 := Lib.hid hr1
  have HR2 := Lib.hid hr2
  have HG := Lib.hid hG
  have HC4 := Lib.hid (hC2.trans hch4)
  clear hB hch2 hC2 hr1 hr2 hB2 hch4 hrows hG
  go_wp2_with (first | (at_builtin; refine wpList_rows_of _ rfl (.const (.slice none 0 0)) (.tmp 59) rfl rfl (.slice none 0 0) (.slice (some ⟨b, o, none⟩) n C) v1 w3 rfl rfl HR1.out ?_) | (at_builtin; refine wpList_rows_of _ rfl (.tmp 60) (.tmp 61) rfl rfl v1 u (.slice (some ⟨g, 0, none⟩) (n + m) Cg) w4 rfl rfl HR2.out ?_))
  clear t3 t4 t5 HR1 HR2 F1
  go_loopw [15, 16, 17] (fun vx vy t wr => ∃ k : Nat, k ≤ n + m ∧ t = .int .i64 k ∧ Hid (TwoRel w4 wr vx k (lostF na za G) vy k (lostF nb zb G))) (fun _ _ t _ => n + m - (intOf t).toNat)
  case atStart => exact ⟨0, Nat.zero_le _, rfl, Lib.hid ⟨Ch.refl _ _, World.ownsRow_nil _ _ _ _, World.ownsRow_nil _ _ _ _, fun q hq => by cases hq⟩⟩
  case round =>
    obtain ⟨k, hk, rfl, HP⟩ := hrel
    by_cases hlt : k < n + m
    · obtain ⟨⟨Ar, Dr, hge⟩, hgc, _⟩ := HG.out k hlt
      rw [hge] at hgc
      have HGE := Lib.hid hge
      have HGC := Lib.hid hgc
      have c1 := HP.out.ch.cell hgc (fun f => f)
      have HAP := Lib.hid (app_mk (x := .slice Ar l Dr) HP.out.x HP.out.ch.size rfl (by omega))
      have HM2 := Lib.hid (show (k + 1) * 24 ≤ 140737488355328 by omega)
      clear hge hgc
      go_upto_region 16 with (at_builtin; refine wpList_append_lies _ rfl (.tmp 69) (.tmp 74) /-t-/22 rfl w4.heap.size /-t-/33 i0 (.slice none 0 0) 1 24 Try.underlying22 hi hz0 hz1 hz2 rfl (by decide) u15 k (valsL k (lostF na za G)) rfl HAP.out.o ⟨wr.heap.size, 0, none⟩ 1 1 [.slice Ar l Dr] rfl rfl HAP.out.n HAP.out.c (by decide) HAP.out.m HM2.out HAP.out.b (wr.heap.size + 1) HAP.out.s ?_; intro gx capx w5 h1 h2 h3 h4)
      have hP5 := HP.out.app h1 h2 h3
      have HP5 := Lib.hid hP5
      have c2 := hP5.ch.cell HGC.out (fun f => f)
      have HAP2 := Lib.hid (app_mk (x := .slice Ar l Dr) hP5.y hP5.ch.size rfl (by omega))
      clear h1 h2 h3 h4 hP5 c1 HP HAP
      go_upto_region 17 with (at_builtin; refine wpList_append_lies _ rfl (.tmp 76) (.tmp 81) /-t-/22 rfl w4.heap.size /-t-/33 i0 (.slice none 0 0) 1 24 Try.underlying22 hi hz0 hz1 hz2 rfl (by decide) u16 k (valsL k (lostF nb zb G)) rfl HAP2.out.o ⟨w5.heap.size, 0, none⟩ 1 1 [.slice Ar l Dr] rfl rfl HAP2.out.n HAP2.out.c (by decide) HAP2.out.m HM2.out HAP2.out.b (w5.heap.size + 1) HAP2.out.s ?_; intro gy capy w6 h1 h2 h3 h4)
      have HP6 := Lib.hid (HP5.out.flip.app h1 h2 h3).flip
      clear h1 h2 h3 h4 c2 HP5 HAP2
      rw [← HGE.out] at HP6
      have hk1 : k < k + 1 := by omega
      rcases bit_cases (nb := na) (k := k) za with ca | ⟨ca, cz⟩ | ⟨ca, cz⟩
      · have ta : decide (k < na) = false := decide_eq_false ca
        go_upto_region 19 with (fail)
        rcases bit_cases (nb := nb) (k := k) zb with cb | ⟨cb, czb⟩ | ⟨cb, czb⟩
        · have tb : decide (k < nb) = false := decide_eq_false cb
          have HN := Lib.hid (HP6.out.congr (lostF_stays (fun q => ca q.1)) (lostF_stays (fun q => cb q.1)))
          go_wp2
          go_roundw
          case rel => exact ⟨k + 1, by omega, by go_num, HN⟩
          case measure => simp [intOf]; omega
        · have hnbb := HNB.out
          obtain ⟨bb, ob, rfl, hcz⟩ := HZB.out (by omega)
          have czc : w6.cell? ⟨bb, ob + k, none⟩ = some (.bool false) := by rw [← czb]; exact (HC4.out.trans HP6.out.ch).cell (hcz k cb) (fun f => f)
          have HN := Lib.hid (HP6.out.congr (lostF_stays (fun q => ca q.1)) (lostF_stays (fun q => by rw [czb] at q; cases q.2)))
          clear hcz
          clear czb
          go_wp2
          go_roundw
          case rel => exact ⟨k + 1, by omega, by go_num, HN⟩
          case measure => simp [intOf]; omega
        · have hnbb := HNB.out
          obtain ⟨bb, ob, rfl, hcz⟩ := HZB.out (by omega)
          have czc : w6.cell? ⟨bb, ob + k, none⟩ = some (.bool true) := by rw [← czb]; exact (HC4.out.trans HP6.out.ch).cell (hcz k cb) (fun f => f)
          obtain ⟨cy, fy⟩ := owns_at HP6.out.y hk1
          have HN := Lib.hid ((HP6.out.flip.set (u := .slice none 0 0) hk1 (.slice none 0 0)).flip.congr (lostF_stays (fun q => ca q.1)) (lostF_goes (⟨cb, czb⟩)))
          clear hcz
          clear czb
          go_wp2
          go_roundw
          case rel => exact ⟨k + 1, by omega, by go_num, HN⟩
          case measure => simp [intOf]; omega
      · have hnaa := HNA.out
        obtain ⟨ba, oa, rfl, hca⟩ := HZA.out (by omega)
        have cac : w6.cell? ⟨ba, oa + k, none⟩ = some (.bool false) := by rw [← cz]; exact (HC4.out.trans HP6.out.ch).cell (hca k ca) (fun f => f)
        have CZ := Lib.hid cz
        clear hca cz
        go_upto_region 19 with (fail)
        clear cac
        have cz := CZ.out
        rcases bit_cases (nb := nb) (k := k) zb with cb | ⟨cb, czb⟩ | ⟨cb, czb⟩
        · have tb : decide (k < nb) = false := decide_eq_false cb
          have HN := Lib.hid (HP6.out.congr (lostF_stays (fun q => by rw [cz] at q; cases q.2)) (lostF_stays (fun q => cb q.1)))
          go_wp2
          go_roundw
          case rel => exact ⟨k + 1, by omega, by go_num, HN⟩
          case measure => simp [intOf]; omega
        · have hnbb := HNB.out
          obtain ⟨bb, ob, rfl, hcz⟩ := HZB.out (by omega)
          have czc : w6.cell? ⟨bb, ob + k, none⟩ = some (.bool false) := by rw [← czb]; exact (HC4.out.trans HP6.out.ch).cell (hcz k cb) (fun f => f)
          have HN := Lib.hid (HP6.out.congr (lostF_stays (fun q => by rw [cz] at q; cases q.2)) (lostF_stays (fun q => by rw [czb] at q; cases q.2)))
          clear hcz
          clear czb
          go_wp2
          go_roundw
          case rel => exact ⟨k + 1, by omega, by go_num, HN⟩
          case measure => simp [intOf]; omega
        · have hnbb := HNB.out
          obtain ⟨bb, ob, rfl, hcz⟩ := HZB.out (by omega)
          have czc : w6.cell? ⟨bb, ob + k, none⟩ = some (.bool true) := by rw [← czb]; exact (HC4.out.trans HP6.out.ch).cell (hcz k cb) (fun f => f)
          obtain ⟨cy, fy⟩ := owns_at HP6.out.y hk1
          have HN := Lib.hid ((HP6.out.flip.set (u := .slice none 0 0) hk1 (.slice none 0 0)).flip.congr (lostF_stays (fun q => by rw [cz] at q; cases q.2)) (lostF_goes (⟨cb, czb⟩)))
          clear hcz
          clear czb
          go_wp2
          go_roundw
          case rel => exact ⟨k + 1, by omega, by go_num, HN⟩
          case measure => simp [intOf]; omega
      · have hnaa := HNA.out
        obtain ⟨ba, oa, rfl, hca⟩ := HZA.out (by omega)
        have cac : w6.cell? ⟨ba, oa + k, none⟩ = some (.bool true) := by rw [← cz]; exact (HC4.out.trans HP6.out.ch).cell (hca k ca) (fun f => f)
        have CZ := Lib.hid cz
        clear hca cz
        obtain ⟨cx, fx⟩ := owns_at HP6.out.x hk1
        go_upto_region 19 with (fail)
        obtain ⟨w7, hw7⟩ : ∃ w7, w7 = w6.setCell ⟨gx, k, none⟩ (.slice none 0 0) := ⟨_, rfl⟩
        rw [← hw7]
        have HP7 := Lib.hid (HP6.out.set (u := .slice none 0 0) hk1 (.slice none 0 0))
        rw [← hw7] at HP7
        clear hw7 cac cx fx
        have cz := CZ.out
        rcases bit_cases (nb := nb) (k := k) zb with cb | ⟨cb, czb⟩ | ⟨cb, czb⟩
        · have tb : decide (k < nb) = false := decide_eq_false cb
          have HN := Lib.hid (HP7.out.congr (lostF_goes (⟨ca, cz⟩)) (lostF_stays (fun q => cb q.1)))
          go_wp2
          go_roundw
          case rel => exact ⟨k + 1, by omega, by go_num, HN⟩
          case measure => simp [intOf]; omega
        · have hnbb := HNB.out
          obtain ⟨bb, ob, rfl, hcz⟩ := HZB.out (by omega)
          have czc : w7.cell? ⟨bb, ob + k, none⟩ = some (.bool false) := by rw [← czb]; exact (HC4.out.trans HP7.out.ch).cell (hcz k cb) (fun f => f)
          have HN := Lib.hid (HP7.out.congr (lostF_goes (⟨ca, cz⟩)) (lostF_stays (fun q => by rw [czb] at q; cases q.2)))
          clear hcz
          clear czb
          go_wp2
          go_roundw
          case rel => exact ⟨k + 1, by omega, by go_num, HN⟩
          case measure => simp [intOf]; omega
        · have hnbb := HNB.out
          obtain ⟨bb, ob, rfl, hcz⟩ := HZB.out (by omega)
          have czc : w7.cell? ⟨bb, ob + k, none⟩ = some (.bool true) := by rw [← czb]; exact (HC4.out.trans HP7.out.ch).cell (hcz k cb) (fun f => f)
          obtain ⟨cy, fy⟩ := owns_at HP7.out.y hk1
          have HN := Lib.hid ((HP7.out.flip.set (u := .slice none 0 0) hk1 (.slice none 0 0)).flip.congr (lostF_goes (⟨ca, cz⟩)) (lostF_goes (⟨cb, czb⟩)))
          clear hcz
          clear czb
          go_wp2
          go_roundw
          case rel => exact ⟨k + 1, by omega, by go_num, HN⟩
          case measure => simp [intOf]; omega
    · have HE := Lib.hid (show k = n + m by omega)
      have hP := HP.out
      rw [HE.out] at hP
      have hMx := lost_mat hP.x (by omega) (fun r hr => (HG.out r hr).2.2.ch hP.ch (fun _ _ f => f))
      have hMy := lost_mat hP.y (by omega) (fun r hr => (HG.out r hr).2.2.ch hP.ch (fun _ _ f => f))
      obtain ⟨bx, ox, Cx, rfl, _, _⟩ := hMx.some (by omega)
      obtain ⟨by', oy, Cy, rfl, _, _⟩ := hMy.some (by omega)
      have HMX := Lib.hid hMx
      have HMY := Lib.hid hMy
      have HCR := Lib.hid (HC4.out.trans hP.ch)
      clear hP hMx hMy HP HG HZA HZB
      go_wp2_with fail
      refine (decode_lostAns _ _ _ (n + m) n l na za X HX.out _ n1 (by omega) (by omega) l1 l2 HMX.out).mono ?_
      rintro e w7 ⟨A7, l7, C7, k7, rfl, hch7, hr7⟩
      have HR7 := Lib.hid hr7
      have HC7 := Lib.hid hch7
      clear hr7 hch7
      go_wp2_with fail
      refine (decode_lostAns _ _ _ (n + m) n l nb zb X HX.out _ n1 (by omega) (by omega) l1 l2 (HMY.out.gr HC7.out)).mono ?_
      rintro e w8 ⟨A8, l8, C8, k8, rfl, hch8, hr8⟩
      have HR8 := Lib.hid hr8
      have HC8 := Lib.hid hch8
      clear hr8 hch8
      rcases HR7.out with ⟨rfl, hm7⟩ | rfl
      · rcases HR8.out with ⟨rfl, hm8⟩ | rfl
        · have HM7 := Lib.hid (hm7.gr HC8.out)
          have HM8 := Lib.hid hm8
          clear hm7 hm8 HR7 HR8
          go_wp2_with fail
          refine (same_any _ _ (n + m) (fun _ => l) (sharesZ n X) _ HM7.out HM8.out).mono ?_
          rintro e w9 ⟨rfl, d9, rfl⟩
          go_wp2
          go_ret
          exact ⟨rfl, ((HCR.out.trans HC7.out).trans HC8.out).drewN _⟩
        · clear hm7 HR7 HR8
          go_wp2
          go_ret
          exact ⟨rfl, (HCR.out.trans HC7.out).trans HC8.out⟩
      · rcases HR8.out with ⟨rfl, hm8⟩ | rfl
        · clear hm8 HR7 HR8
          go_wp2
          go_ret
          exact ⟨rfl, (HCR.out.trans HC7.out).trans HC8.out⟩
        · clear HR7 HR8
          go_wp2
          go_ret
          exact ⟨rfl, (HCR.out.trans HC7.out).trans HC8.out⟩
theorem rsAny_of (va : Value) (m : Int) (vb vc : Value) (w : World) {n : Nat} {L : Nat → Nat} {X : Nat → Nat → Nat} {na : Nat} {za : Nat → Bool} {nb : Nat} {zb : Nat → Bool} (ha : MatV w va n L X) (hm : -9223372036854775808 ≤ m ∧ m ≤ 9223372036854775807) (hb : BitsV w vb na za) (hc : BitsV w vc nb zb) : Calls Try.prog 8 #[va, .int .i64 m, vb, vc] w (Told w) := by
  by_cases h : lightB n L = true ∧ mayB n L = true ∧ n ≤ 12 ∧ 0 ≤ m ∧ m ≤ 8
  · obtain ⟨h1, h2, h3, h4, h5⟩ := h
    obtain ⟨m, rfl⟩ := Int.eq_ofNat_of_zero_le h4
    obtain ⟨b, o, C, rfl, _, _⟩ := ha.some (mayB_true h2).1
    obtain ⟨Aa, Ca, rfl, _⟩ := id hb
    obtain ⟨Ab, Cb, rfl, _⟩ := id hc
    exact rsAny_main b o C n m L _ (trunc_b X) Aa na Ca za Ab nb Cb zb w ha.trunc hb hc h1 h2 h3 (by omega)
  · exact rsAny_short va vb vc n L X m w ha h
#print axioms rsAny_of
end Go.Proofs.Ytlgdajmidcdiaaa
