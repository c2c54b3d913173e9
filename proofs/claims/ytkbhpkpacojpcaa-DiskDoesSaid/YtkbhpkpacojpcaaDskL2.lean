/-
  DiskPlain, walked: without faults a device is as good as a list of sectors.
-/
import Derived.Test.YtkbhpkpacojpcaaDskP
import Derived.Test.YtkbhpkpacojpcaaOpenQ
import Derived.Deep.RegionHeld3
namespace Go.Proofs.Ytkbhpkpacojpcaa
open Go.RowKit
set_option linter.unusedVariables false

/-! ### in plain words -/
structure Plain (d : Dev) (last : Nat → Nat) : Prop where
  n : d.n = 20
  dead : d.dead = false
  armed : d.armed = false
  lost : ∀ a, d.lost a = false
  drops : ∀ a, d.drops a = 0
  miss : ∀ a, d.miss a = []
  val : ∀ a c : Nat, a < 20 → c < 256 → readZ d (a : Int) c = last a
theorem Plain.dies {d : Dev} {last : Nat → Nat} (h : Plain d last) : diesB d = false ∧ diesD d = d := by
  unfold diesB diesD
  rw [h.armed]
  exact ⟨rfl, rfl⟩
theorem Plain.open' {d : Dev} {last : Nat → Nat} (h : Plain d last) (a : Int) : openE d a = if 0 ≤ a ∧ a < 20 then 0 else 3 := by
  unfold openE hasB
  rw [h.dead, h.n]
  by_cases q : 0 ≤ a ∧ a < 20
  · rw [if_pos q]; simp [q.1, q.2]
  · rw [if_neg q]
    simp
    omega
theorem Plain.write {d : Dev} {last : Nat → Nat} {k b t : Nat} (h : Plain d last) (hk : k < 20) (hl : Lim d t) : writeE d (k : Int) 256 = 0 ∧ Plain (writeD d (k : Int) 256 (fun _ => b)) (up last k b) ∧ Lim (writeD d (k : Int) 256 (fun _ => b)) (t + 1) := by
  have ho : openE d (k : Int) = 0 := by rw [h.open', if_pos ⟨by omega, by omega⟩]
  have hw : wr1 d = { d with ops := d.ops + 1 } := by unfold wr1; rw [h.dies.2]
  have hc : aimC (wr1 d) k = true := by rw [hw]; exact decide_eq_true (by show ¬ 0 < d.drops k; rw [h.drops]; omega)
  have hd : aimD (wr1 d) k = wr1 d ∧ aimT (wr1 d) k = k := by
    rw [hw]
    unfold aimD aimT
    have e1 : ¬ 0 < d.drops k := by rw [h.drops]; omega
    have e2 := h.miss k
    exact ⟨by rw [if_neg e1]; show (match d.miss k with | [] => _ | t :: r => _) = _; rw [e2], by rw [if_neg e1]; show (match d.miss k with | [] => _ | t :: r => _) = _; rw [e2]⟩
  obtain ⟨e1, e2⟩ := write_goes (z := fun _ => b) ho h.dies.1 hc
  rw [hd.1, hd.2, hw] at e2
  refine ⟨e1, ?_, ?_⟩
  · rw [e2]
    refine ⟨h.n, h.dead, h.armed, h.lost, h.drops, h.miss, fun a c ha hc => ?_⟩
    unfold readZ
    rw [Int.toNat_natCast]
    show (match lastW (d.W ++ [(⟨k, fun _ => b⟩ : Wt)]) a with | some x => x.z | none => d.has a) c = _
    rw [lastW_snoc]
    by_cases q : k = a
    · subst q
      rw [if_pos rfl, up_same]
    · rw [if_neg q, up_other _ _ (fun e => q e.symm)]
      have := h.val a c ha hc
      unfold readZ at this
      rw [Int.toNat_natCast] at this
      exact this
  · rw [e2]
    refine ⟨?_, ?_, fun a => Nat.le_trans (hl.drops a) (by omega)⟩
    · show d.ops + 1 ≤ t + 1
      have := hl.ops
      omega
    · show (d.W ++ [_]).length ≤ t + 1
      have := hl.W
      simp
      omega
theorem Plain.none {d : Dev} {last : Nat → Nat} {a : Int} {b : Nat} (h : Plain d last) (ha : ¬ (0 ≤ a ∧ a < 20)) : writeE d a 256 = 3 ∧ writeD d a 256 (fun _ => b) = d := by
  have ho : openE d a = 3 := by rw [h.open', if_neg ha]
  have := write_bad (n := 256) (z := fun _ => b) (show ¬ openE d a = 0 by rw [ho]; decide)
  rw [ho] at this
  exact this
theorem Plain.flush {d : Dev} {last : Nat → Nat} {t : Nat} (h : Plain d last) (hl : Lim d t) : flushE d = 0 ∧ Plain (flushD d) last ∧ Lim (flushD d) t := by
  have e : flushD d = { finAll d d.W with W := [] } := by unfold flushD; rw [h.dead, h.dies.1, h.dies.2]; rfl
  obtain ⟨s1, s2, s3, s4, s5, s6⟩ := finAll_same d.W d
  refine ⟨by unfold flushE; rw [h.dead, h.dies.1]; rfl, ?_, ?_⟩
  · rw [e]
    refine ⟨(finAll_n _ _).trans h.n, s4.trans h.dead, s5.trans h.armed, fun a => ?_, fun a => ?_, fun a => ?_, fun a c ha hc => ?_⟩
    · show (finAll d d.W).lost a = false
      rw [(finAll_has d a d.W).2, h.lost, Bool.and_false]
    · show (finAll d d.W).drops a = 0
      rw [s2, h.drops]
    · show (finAll d d.W).miss a = []
      rw [s3, h.miss]
    · unfold readZ
      rw [Int.toNat_natCast]
      show (finAll d d.W).has a c = last a
      rw [(finAll_has d a d.W).1]
      have := h.val a c ha hc
      unfold readZ at this
      rw [Int.toNat_natCast] at this
      exact this
  · rw [e]
    refine ⟨?_, Nat.zero_le _, fun a => ?_⟩
    · show (finAll d d.W).ops ≤ t
      rw [s1]; exact hl.ops
    · show (finAll d d.W).drops a ≤ _
      rw [s2]; exact hl.drops a
theorem Plain.has {d : Dev} {last : Nat → Nat} {k t : Nat} (h : Plain d last) (hk : k < 20) (hl : Lim d t) : hasP d (k : Int) (last k) = true ∧ Plain (readD d (k : Int)) last ∧ Lim (readD d (k : Int)) (t + 1) := by
  have ho : openE d (k : Int) = 0 := by rw [h.open', if_pos ⟨by omega, by omega⟩]
  have e : readD d (k : Int) = { d with ops := d.ops + 1 } := by unfold readD; rw [if_pos ho]
  refine ⟨hasP_yes ?_ (fun c hc => h.val k c hk hc), ?_, ?_⟩
  · unfold readE
    rw [if_pos ho, h.lost, Bool.and_false]
    rfl
  · rw [e]
    exact ⟨h.n, h.dead, h.armed, h.lost, h.drops, h.miss, h.val⟩
  · rw [e]
    exact ⟨by show d.ops + 1 ≤ _; have := hl.ops; omega, Nat.le_trans hl.W (by omega), fun a => Nat.le_trans (hl.drops a) (by omega)⟩
theorem plain0 : Plain (dev0 20) (fun _ => 0) := ⟨rfl, rfl, rfl, fun _ => rfl, fun _ => rfl, fun _ => rfl, fun _ _ _ _ => rfl⟩

/-! ### between two rounds -/
structure PlSt (w0 w : World) (B La : Nat) (last : Nat → Nat) (t : Nat) : Prop where
  dev : ∃ d, OneX w0 (fun i => i = La) B d w ∧ Plain d last ∧ Lim d t
  row : w.rowIs La 48 20 (fun a => .int .u8 (last a : Int))
  low : w0.heap.size ≤ La
  byt : ∀ a, last a < 256
theorem PlSt.next {w0 w w' : World} {B La t t' : Nat} {d' : Dev} {last : Nat → Nat} (h : PlSt w0 w B La last t) (h2 : OneX w0 (fun i => i = La) B d' w') (k : Ch (fun i => w0.heap.size ≤ i ∧ ¬ i = La) w w') (hp : Plain d' last) (hl : Lim d' t') : PlSt w0 w' B La last t' :=
  ⟨⟨d', h2, hp, hl⟩, k.rowIs h.row (fun q => q.2 rfl), h.low, h.byt⟩
theorem PlSt.gr {w0 w w' : World} {B La t : Nat} {last : Nat → Nat} (h : PlSt w0 w B La last t) (k : Ch (fun _ => False) w w') : PlSt w0 w' B La last t := by
  obtain ⟨d, h1, h2, h3⟩ := h.dev
  exact ⟨⟨d, h1.gr k, h2, h3⟩, k.rowIs h.row (fun f => f), h.low, h.byt⟩
theorem PlSt.wrote {w0 wr wb : World} {B La t t' j b : Nat} {d' : Dev} {last : Nat → Nat} (h : PlSt w0 wr B La last t) (h2 : OneX w0 (fun i => i = La) B d' wb) (k : Ch (fun i => w0.heap.size ≤ i ∧ ¬ i = La) wr wb) (hp : Plain d' (up last j b)) (hl : Lim d' t') (hj : j < 20) (hb : b < 256) :
    PlSt w0 (wb.setCell ⟨La, j, none⟩ (.int .u8 (b : Int))) B La (up last j b) t' := by
  have kS : Ch (fun i => i = La) wb (wb.setCell ⟨La, j, none⟩ (.int .u8 (b : Int))) := Ch.setCell (S := fun i => i = La) (Ch.refl _ wb) (p := ⟨La, j, none⟩) (Or.inl rfl) _
  refine ⟨⟨d', h2.set kS (fun i hi => ⟨hi, hi ▸ h.low⟩), hp, hl⟩, (((k.rowIs h.row (fun q => q.2 rfl))).set j _).congr fun i _ => ?_, h.low, fun a => ?_⟩
  · by_cases q : i = j
    · rw [if_pos q, q, up_same]
    · rw [if_neg q, up_other _ _ q]
  · unfold up
    split
    · exact hb
    · exact h.byt a
set_option maxHeartbeats 1600000 in
set_option maxRecDepth 100000 in
theorem diskPlain_any (A : Option Addr) (n C : Nat) (F : Nat → OpD) (w : World) (h : RowO w (.slice A n C) n F) : Calls Try.prog 5 #[.slice A n C] w (Told w) := by
  have hn63 : n ≤ 9223372036854775807 := by obtain ⟨_, _, _, h1, _⟩ := h; exact h1
  by_cases hbig : 60 < n
  · clear h
    go_enter Try.func5, Try.ntmps5
    go_wp2_with fail
    refine (awake_any _).mono ?_
    rintro e w1 ⟨rfl, hc1⟩
    have HC1 := Lib.hid hc1
    clear hc1
    go_wp2
    go_ret
    exact ⟨rfl, HC1.out⟩
  · have HO := Lib.hid h
    have hn60 : n ≤ 60 := by omega
    clear h hbig hn63
    go_enter Try.func5, Try.ntmps5
    go_wp2_with fail
    refine (awake_any _).mono ?_
    rintro e w1 ⟨rfl, hc1⟩
    have HC1 := Lib.hid hc1
    clear hc1
    go_wp2_with fail
    refine (show Calls Try.prog _ #[.int .i64 20] _ _ from OneX.new (X := fun _ => False) 20 w1 (by omega) (by omega) w HC1.out (fun _ f => f.elim)).mono ?_
    rintro e w2 ⟨B, rfl, h2⟩
    have kst : Ch (fun _ => False) w2 (w2.alloc (.cells (Array.replicate 20 (.int .u8 0)) 48)) := (Ch.refl _ w2).alloc _ _
    have HST := Lib.hid (show PlSt w (w2.alloc (.cells (Array.replicate 20 (.int .u8 0)) 48)) B w2.heap.size (fun _ => 0) 0 from
      ⟨⟨dev0 20, h2.fresh kst (fun i hi => Or.inr (by subst hi; simp)), plain0, ⟨Nat.le_refl _, Nat.le_refl _, fun _ => Nat.le_refl _⟩⟩, World.rowIs_alloc w2 _ _ _ (fun i hi => by simp at hi; simp [hi]), h2.ch.size, fun _ => by decide⟩)
    obtain ⟨La, hLa⟩ : ∃ La, La = w2.heap.size := ⟨_, rfl⟩
    have hal : w2.alloc (.cells #[.int .u8 0, .int .u8 0, .int .u8 0, .int .u8 0, .int .u8 0, .int .u8 0, .int .u8 0, .int .u8 0, .int .u8 0, .int .u8 0, .int .u8 0, .int .u8 0, .int .u8 0, .int .u8 0, .int .u8 0, .int .u8 0, .int .u8 0, .int .u8 0, .int .u8 0, .int .u8 0] 48) = w2.alloc (.cells (Array.replicate 20 (.int .u8 0)) 48) := rfl
    have HCW := Lib.hid (show Ch (fun _ => False) w (w2.alloc (.cells (Array.replicate 20 (.int .u8 0)) 48)) from h2.ch.trans kst)
    rw [← hLa] at HST
    have HLA := Lib.hid hLa.symm
    clear h2 kst hLa hal
    go_wp2
    rw [HLA.out]
    go_loopw [7, 8] (fun i _ wr => ∃ k : Nat, k ≤ n ∧ i = .int .i64 k ∧ ∃ last, Hid (PlSt w wr B La last k)) (fun i _ _ => n - (intOf i).toNat)
    case atStart => exact ⟨0, Nat.zero_le _, rfl, _, HST⟩
    case round =>
      obtain ⟨k, hk, rfl, last, HK⟩ := hrel
      by_cases hlt : k < n
      · obtain ⟨b, o, rfl, hops⟩ := HO.out.at (by omega)
        obtain ⟨d, hone, hpl, hlim⟩ := HK.out.dev
        obtain ⟨x, hx⟩ : ∃ x, x = F k := ⟨_, rfl⟩
        have hop : OpAt wr b (o + k * 14) x := by rw [hx]; exact (hops k hlt).gr hone.ch
        have HOP := Lib.hid hop
        have c0 := hop.c0
        have i1 : (0 : Int) ≤ (k : Int) := Int.natCast_nonneg _
        have i2 : (k : Int) < (n : Int) := by omega
        have HONE := Lib.hid hone
        have HPL := Lib.hid hpl
        have HLIM := Lib.hid hlim
        have HBN := Lib.hid (show b < w.heap.size from World.block_lt_of_cell? _ _ (hops k hlt).c0)
        clear hop hops hx hone hpl hlim
        by_cases hq : x.kd = 0
        · rw [hq] at c0
          have c1 := HOP.out.c1
          have c2 := HOP.out.c2
          have hb8 := HOP.out.by8
          clear hq
          by_cases hr : 0 ≤ x.pl ∧ x.pl < 20
          · obtain ⟨j, hj⟩ : ∃ j : Nat, x.pl = (j : Int) := ⟨x.pl.toNat, by omega⟩
            have hj20 : j < 20 := by omega
            obtain ⟨e1, e2, e3⟩ := HPL.out.write (b := x.b) hj20 HLIM.out
            have HWR : Hid (∀ ba wa, wa.rowIs ba /-t-/5 256 (fun i => .int .u8 (((fun _ => x.b) i : Nat) : Int)) → wr.heap.size ≤ ba → Ch (fun _ => False) wr wa → Calls Try.prog 15 #[.pointer (some ⟨B, 0, none⟩), .int .i64 (j : Int), .slice (some ⟨ba, 0, none⟩) 256 256] wa (OnePX w (fun i => i = La) B (writeD d j 256 (fun _ => x.b)) (.int .i64 0) wa)) := fun ba wa h1 h2 h3 => by
              have := HONE.out.write (a := j) h1 hb8 h2 h3 HLIM.out (by omega)
              rw [e1] at this
              exact this
            have E2 := Lib.hid e2
            have E3 := Lib.hid e3
            have HJ := Lib.hid hj20
            rw [hj] at c1
            have j1 : (0 : Int) ≤ (j : Int) := Int.natCast_nonneg _
            have j2 : (j : Int) < 20 := by omega
            have hLb : La ≠ b := fun e => by have := HK.out.low; have := HBN.out; omega
            clear e1 e2 e3 hr hj hj20
            go_wp2
            go_region_held3 (fun w' => w'.cell? ⟨b, o + k * 14 + 1, none⟩ = some (.int .i64 (j : Int)) ∧ w'.cell? ⟨b, o + k * 14 + 2, none⟩ = some (.int .u8 (x.b : Int))) (first | go_keep | exact ⟨ka, kb⟩ | exact ⟨kc, kd⟩)
            (first
              | (go_at_call 16; refine (sector_any x.b hb8 _).mono ?_; rintro e wa ⟨ba, rfl, ha, hba, hca⟩; have ka := hca.cell (World.cell?_of_block rfl |>.trans c1) (fun f => f); have kb := hca.cell (World.cell?_of_block rfl |>.trans c2) (fun f => f); have kw := (Ch.refl (fun _ => False) wr).drew.trans hca)
              | (go_at_call 15; refine (HWR.out ba wa ha hba kw).mono ?_; rintro e wb ⟨rfl, hone2, hk2⟩; have kc := hk2.cell ka (fun q => absurd q.1 (Nat.not_le_of_lt HBN.out)); have kd := hk2.cell kb (fun q => absurd q.1 (Nat.not_le_of_lt HBN.out))))
            have HN := Lib.hid (HK.out.wrote hone2 ((kw.mono fun _ _ f => f.elim).trans hk2) E2.out (t' := k + 1) E3.out HJ.out hb8)
            have lrow := hk2.rowIs ((kw.mono (fun _ _ f => f.elim) : Ch (fun i => w.heap.size ≤ i ∧ ¬ i = La) wr wa).rowIs HK.out.row (fun q => q.2 rfl)) (fun q => q.2 rfl)
            have lc := lrow.cell HJ.out
            have lf := lrow.frozen j
            clear lrow ka kb kw hca hba ha hone2 hk2 c0 c1 c2
            go_wp2
            go_region_held3 (fun w' => w'.cell? ⟨b, o + k * 14 + 1, none⟩ = some (.int .i64 (j : Int)) ∧ w'.cell? ⟨b, o + k * 14 + 2, none⟩ = some (.int .u8 (x.b : Int))) (first | go_keep | (refine ⟨?_, ?_⟩; (rw [World.cell?_setCell_other _ _ _ _ (fun e => hLb (congrArg Addr.block e))]; exact kc); (rw [World.cell?_setCell_other _ _ _ _ (fun e => hLb (congrArg Addr.block e))]; exact kd)))
              (fail)
            all_goals
              go_wp2
              go_roundw
              case rel => exact ⟨k + 1, by omega, by go_num, _, Lib.hid (HN.out.gr (Ch.refl _ _).drew)⟩
              case measure => simp [intOf]; omega
          · obtain ⟨e1, e2⟩ := HPL.out.none (b := x.b) hr
            have HWR : Hid (∀ ba wa, wa.rowIs ba /-t-/5 256 (fun i => .int .u8 (((fun _ => x.b) i : Nat) : Int)) → wr.heap.size ≤ ba → Ch (fun _ => False) wr wa → Calls Try.prog 15 #[.pointer (some ⟨B, 0, none⟩), .int .i64 x.pl, .slice (some ⟨ba, 0, none⟩) 256 256] wa (OnePX w (fun i => i = La) B d (.int .i64 3) wa)) := fun ba wa h1 h2 h3 => by
              have := HONE.out.write (a := x.pl) h1 hb8 h2 h3 HLIM.out (by omega)
              rw [e1, e2] at this
              exact this
            clear e1 e2
            go_wp2
            go_region_held3 (fun w' => w'.cell? ⟨b, o + k * 14 + 1, none⟩ = some (.int .i64 x.pl) ∧ w'.cell? ⟨b, o + k * 14 + 2, none⟩ = some (.int .u8 (x.b : Int))) (first | go_keep | exact ⟨ka, kb⟩ | exact ⟨kc, kd⟩)
            (first
              | (go_at_call 16; refine (sector_any x.b hb8 _).mono ?_; rintro e wa ⟨ba, rfl, ha, hba, hca⟩; have ka := hca.cell (World.cell?_of_block rfl |>.trans c1) (fun f => f); have kb := hca.cell (World.cell?_of_block rfl |>.trans c2) (fun f => f); have kw := (Ch.refl (fun _ => False) wr).drew.trans hca)
              | (go_at_call 15; refine (HWR.out ba wa ha hba kw).mono ?_; rintro e wb ⟨rfl, hone2, hk2⟩; have kc := hk2.cell ka (fun q => absurd q.1 (Nat.not_le_of_lt HBN.out)); have kd := hk2.cell kb (fun q => absurd q.1 (Nat.not_le_of_lt HBN.out))))
            have HN : Hid (PlSt w wb B La last (k + 1)) := (HK.out.gr kw).next hone2 hk2 HPL.out ⟨Nat.le_trans HLIM.out.ops (by omega), Nat.le_trans HLIM.out.W (by omega), fun a => Nat.le_trans (HLIM.out.drops a) (by omega)⟩
            clear ka kb kw hca hba ha hone2 hk2 c0 c1 c2
            by_cases hr0 : 0 ≤ x.pl
            · have hr1 : 20 ≤ x.pl := by omega
              go_wp2
              go_roundw
              case rel => exact ⟨k + 1, by omega, by go_num, last, HN⟩
              case measure => simp [intOf]; omega
            · go_wp2
              go_roundw
              case rel => exact ⟨k + 1, by omega, by go_num, last, HN⟩
              case measure => simp [intOf]; omega
        · have t1 : (x.kd != 0) = true := by simpa using hq
          obtain ⟨e1, e2, e3⟩ := HPL.out.flush HLIM.out
          have HFL := Lib.hid (HONE.out.flush HLIM.out (by omega))
          rw [e1] at HFL
          have E2 := Lib.hid e2
          have E3 := Lib.hid e3
          clear hq e1 e2 e3
          go_wp2_with fail
          refine HFL.out.mono ?_
          rintro e w3 hp3
          have HN := Lib.hid (HK.out.next hp3.2.1 hp3.2.2 E2.out (t' := k + 1) ⟨Nat.le_trans E3.out.ops (by omega), Nat.le_trans E3.out.W (by omega), fun a => Nat.le_trans (E3.out.drops a) (by omega)⟩)
          obtain ⟨rfl, _⟩ := hp3
          go_wp2
          go_roundw
          case rel => exact ⟨k + 1, by omega, by go_num, last, HN⟩
          case measure => simp [intOf]; omega
      · obtain rfl : k = n := by omega
        go_wp2
        go_loopw [9] (fun i wq => ∃ j : Nat, j ≤ 20 ∧ i = .int .i64 j ∧ Hid (PlSt w wq B La last (k + j))) (fun i _ => 20 - (intOf i).toNat)
        case atStart => exact ⟨0, Nat.zero_le _, rfl, HK⟩
        case round =>
          obtain ⟨j, hj, rfl, HJ⟩ := hrel
          by_cases hlt : j < 20
          · obtain ⟨d, hone, hpl, hlim⟩ := HJ.out.dev
            obtain ⟨e1, e2, e3⟩ := hpl.has hlt hlim
            have lc := HJ.out.row.cell hlt
            have lb := HJ.out.byt j
            have HH := Lib.hid (hone.has (a := (j : Int)) lb hlim (by omega))
            rw [e1] at HH
            have E2 := Lib.hid e2
            have E3 := Lib.hid e3
            have j1 : (0 : Int) ≤ (j : Int) := Int.natCast_nonneg _
            have j2 : (j : Int) < 20 := by omega
            clear hone hpl hlim e1 e2 e3
            go_wp2_with fail
            refine HH.out.mono ?_
            rintro e w3 ⟨rfl, h3, k3⟩
            have HN := Lib.hid (HJ.out.next h3 k3 E2.out (t' := k + (j + 1)) E3.out)
            clear h3 k3
            go_wp2
            go_roundw
            case rel => exact ⟨j + 1, by omega, by go_num, HN⟩
            case measure => simp [intOf]; omega
          · obtain rfl : j = 20 := by omega
            obtain ⟨d, hone, _, _⟩ := HJ.out.dev
            have HE := Lib.hid hone.ch
            clear hone
            go_wp2
            go_ret
            exact ⟨rfl, HE.out⟩
theorem diskPlain_of (v : Value) (w : World) {n : Nat} {F : Nat → OpD} (h : RowO w v n F) : Calls Try.prog 5 #[v] w (Told w) := by
  obtain ⟨A, C, rfl, _⟩ := id h
  exact diskPlain_any A n C F w h
#print axioms diskPlain_of
end Go.Proofs.Ytkbhpkpacojpcaa
