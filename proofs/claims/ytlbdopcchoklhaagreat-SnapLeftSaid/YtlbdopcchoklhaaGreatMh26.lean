/-
  (*disk.Disk).rot, walked. disk.faults (a map of what each kind does), and a look into it, walked.
-/
import Derived.Test.YtlbdopcchoklhaaGreatMh24
import Derived.BigRegion
import Derived.Laws.BitsAllLaws
import Derived.ChangeMaps5
import Derived.OrdersHeld
namespace Go.Proofs.YtlbdopcchoklhaaGreat
open Go.RowKit
set_option linter.unusedVariables false
set_option maxRecDepth 100000

def rotZ (z : Nat → Nat) (off : Nat) (m : Nat → Nat) (n c : Nat) : Nat := if off ≤ c ∧ c < off + n then z c ^^^ m (c - off) else z c
def maskOf (f : Fa) (j : Nat) : Nat := if j = 0 then f.k0 else if j = 1 then f.k1 else if j = 2 then f.k2 else f.k3
theorem mask_lt {f : Fa} (h : FaOk f) (j : Nat) : maskOf f j < 256 := by
  unfold maskOf
  split
  · exact h.k0
  · split
    · exact h.k1
    · split
      · exact h.k2
      · exact h.k3
theorem mask_cell {f : Fa} {j : Nat} (h : j < 4) : (faC f)[5 + j]? = some (.int .u8 (maskOf f j : Int)) := by
  match j, h with
  | 0, _ => rfl
  | 1, _ => rfl
  | 2, _ => rfl
  | 3, _ => rfl
theorem rotZ_zero (z : Nat → Nat) (off : Nat) (m : Nat → Nat) : rotZ z off m 0 = z := funext fun c => by unfold rotZ; rw [if_neg (by omega)]
theorem rotZ_succ (z : Nat → Nat) (off : Nat) (m : Nat → Nat) (n : Nat) : up (rotZ z off m n) (off + n) (z (off + n) ^^^ m n) = rotZ z off m (n + 1) := funext fun c => by
  unfold up rotZ
  by_cases q : c = off + n
  · rw [if_pos q, if_pos (by omega), q, show off + n - off = n by omega]
  · rw [if_neg q]
    by_cases q2 : off ≤ c ∧ c < off + n
    · rw [if_pos q2, if_pos (by omega)]
    · rw [if_neg q2, if_neg (by omega)]
theorem rotZ_at (z : Nat → Nat) (off : Nat) (m : Nat → Nat) (n : Nat) : rotZ z off m n (off + n) = z (off + n) := by unfold rotZ; rw [if_neg (by omega)]
theorem xor8 {a b : Nat} (ha : a < 256) (hb : b < 256) : a ^^^ b < 256 := Nat.xor_lt_two_pow (n := 8) ha hb
theorem up_up {α : Type} (f : Nat → α) (a : Nat) (x y : α) : up (up f a x) a y = up f a y := funext fun i => by unfold up; split <;> rfl
theorem up_id {α : Type} (f : Nat → α) (a : Nat) : up f a (f a) = f := funext fun i => by unfold up; split; rename_i h; rw [h]; rfl
theorem DevIs.setByte {base : Nat} {w : World} {p : Ph} {d : Dev} (h : DevIs base w p d) {a c x : Nat} (ha : a < d.n) (hc : c < 256) (hx : x < 256) : DevIs base (w.setCell ⟨p.G, a * 259 + c, none⟩ (.int .u8 (x : Int))) p { d with has := up d.has a (up (d.has a) c x) } := by
  have hk := chG w p (a * 259 + c) (.int .u8 (x : Int))
  refine h.turn (d' := { d with has := up d.has a (up (d.has a) c x) }) (hk.mono fun _ _ e => Or.inr e) ((hk.block _ (blk_lt h.blk) h.BG).trans h.blk) (sec_set h ha (by omega) _ _ _ ?_ ?_) rfl rfl rfl ?_ h.lf
  · unfold secV
    rw [if_pos hc]
    show Value.int .u8 ((up d.has a (up (d.has a) c x) a c : Nat) : Int) = _
    rw [up_same, up_same]
  · intro b j hj hn
    unfold secV
    by_cases q : j < 256
    · rw [if_pos q, if_pos q]
      show Value.int .u8 ((up d.has a (up (d.has a) c x) b j : Nat) : Int) = _
      by_cases q2 : b = a
      · rw [q2, up_same, up_other _ _ (fun e => hn ⟨q2, e⟩)]
      · rw [up_other _ _ q2]
    · rw [if_neg q, if_neg q]
  · intro b j hb hj
    show up d.has a (up (d.has a) c x) b j < 256
    by_cases q2 : b = a
    · rw [q2, up_same]
      by_cases q3 : j = c
      · rw [q3, up_same]; exact hx
      · rw [up_other _ _ q3]; exact h.byt a j ha hj
    · rw [up_other _ _ q2]; exact h.byt b j hb hj
def rotE (f : Fa) : Int := if f.off < 0 ∨ 256 ≤ f.off then 1 else 0
def rotAt (d : Dev) (k off : Nat) (m : Nat → Nat) (n : Nat) : Dev := { d with has := up d.has k (rotZ (d.has k) off m n) }
def rotD (d : Dev) (f : Fa) : Dev := if f.off < 0 ∨ 256 ≤ f.off then d else rotAt (settleD d f.pl.toNat) f.pl.toNat f.off.toNat (maskOf f) (min 4 (256 - f.off.toNat))
theorem rotAt_zero (d : Dev) (k off : Nat) (m : Nat → Nat) : rotAt d k off m 0 = d := by unfold rotAt; rw [rotZ_zero, up_id]
theorem rotAt_succ (d : Dev) (k off : Nat) (m : Nat → Nat) (n : Nat) : ({ rotAt d k off m n with has := up (rotAt d k off m n).has k (up ((rotAt d k off m n).has k) (off + n) (d.has k (off + n) ^^^ m n)) } : Dev) = rotAt d k off m (n + 1) := by
  unfold rotAt
  have e : up d.has k (rotZ (d.has k) off m n) k = rotZ (d.has k) off m n := up_same _ _ _
  show ({ d with has := up (up d.has k (rotZ (d.has k) off m n)) k (up (up d.has k (rotZ (d.has k) off m n) k) (off + n) _) } : Dev) = _
  rw [e, up_up, rotZ_succ]
set_option maxHeartbeats 1600000 in
set_option maxRecDepth 100000 in
theorem rot_any (base : Nat) (p : Ph) (d : Dev) (f : Fa) (w : World) (h : DevIs base w p d) (hf : FaOk f) (hW : d.W.length ≤ 1048576) (hp : 0 ≤ f.pl ∧ f.pl < d.n) :
    Calls Tryz.prog 89 #[.pointer (some ⟨p.B, 0, none⟩), .agg (faC f)] w (DPost base p d (rotD d f) (.int .i64 (rotE f)) w) := by
  obtain ⟨w1, H, hR⟩ := faR w f
  obtain ⟨k, hk⟩ : ∃ k : Nat, f.pl = (k : Int) := ⟨f.pl.toNat, by omega⟩
  have hkn : k < d.n := by omega
  have h1 : DevIs base w1 p d := h.gr hR.ch
  have HR := Lib.hid hR
  by_cases hq : f.off < 0 ∨ 256 ≤ f.off
  · have hS : rotE f = 1 ∧ rotD d f = d := by unfold rotE rotD; rw [if_pos hq, if_pos hq]; exact ⟨rfl, rfl⟩
    rw [hS.1, hS.2]
    have x2 : w1.cell? ⟨H, 2, none⟩ = some (.int .i64 f.off) := hR.at 2
    have HP := Lib.hid (DPost.turned (base := base) (r := .int .i64 1) h1 rfl (hR.ch.mono fun _ _ f => f.elim) (w := w))
    obtain ⟨B, G, V, m, cG⟩ := p
    clear h h1 hR hk hS hf hp
    by_cases hq1 : f.off < 0
    · clear hq
      go_enter Tryz.func89, Tryz.ntmps89
      go_wp2_with ((with_reducible refine wpList_same ?_); refine wpList_boxing _ w1 rfl 45 (.tmp 1) rfl (faC f) H rfl (by exact HR.out.sz) (by exact HR.out.al) ?_)
      go_ret
      exact HP.out
    · have hq2 : 256 ≤ f.off := by omega
      clear hq
      go_enter Tryz.func89, Tryz.ntmps89
      go_wp2_with ((with_reducible refine wpList_same ?_); refine wpList_boxing _ w1 rfl 45 (.tmp 1) rfl (faC f) H rfl (by exact HR.out.sz) (by exact HR.out.al) ?_)
      go_ret
      exact HP.out
  · obtain ⟨o, ho⟩ : ∃ o : Nat, f.off = (o : Int) := ⟨f.off.toNat, by omega⟩
    have ho256 : o < 256 := by omega
    obtain ⟨N, hN⟩ : ∃ N, N = min 4 (256 - o) := ⟨_, rfl⟩
    have hS : rotE f = 0 ∧ rotD d f = rotAt (settleD d k) k o (maskOf f) N := by unfold rotE rotD; rw [if_neg hq, if_neg hq, hk, ho, hN, Int.toNat_natCast, Int.toNat_natCast]; exact ⟨rfl, rfl⟩
    rw [hS.1, hS.2]
    have x1 : w1.cell? ⟨H, 1, none⟩ = some (.int .i64 (k : Int)) := by rw [← hk]; exact hR.at 1
    have x2 : w1.cell? ⟨H, 2, none⟩ = some (.int .i64 (o : Int)) := by rw [← ho]; exact hR.at 2
    have HM : Hid (∀ j, j < 4 → w1.cell? ⟨H, 5 + j, none⟩ = some (.int .u8 (maskOf f j : Int))) := fun j hj => by rw [hR.at]; exact mask_cell hj
    have HT := Lib.hid (settle_any base p d k w1 h1 hW)
    have HX := Lib.hid (show ¬ Foot p d H from fun q => by have := (h.foot q).2; have := hR.sz; omega)
    have HH1 := Lib.hid (show H < w1.heap.size from blk_lt hR.cx)
    have HK := Lib.hid hkn
    have HML := Lib.hid (mask_lt hf)
    have hN4 : N ≤ 4 := by omega
    have hoN : o + N ≤ 256 := by omega
    have eN : (N : Int) = min 4 (256 - (o : Int)) := by omega
    have q1 : ¬ (o : Int) < 0 := by omega
    have q2 : (o : Int) < 256 := by omega
    clear h h1 hp hW hq hS hk ho hf hN
    obtain ⟨B, G, V, m, cG⟩ := p
    go_enter Tryz.func89, Tryz.ntmps89
    go_wp2_with (first
      | ((with_reducible refine wpList_same ?_); refine wpList_boxing _ w1 rfl 45 (.tmp 1) rfl (faC f) H rfl (by exact HR.out.sz) (by exact HR.out.al) ?_)
      | (go_at_call 121; refine HT.out.mono ?_; rintro e w2 ⟨rfl, p2, hp2, h2, hf2, hc2⟩))
    have hn2 : (settleD d k).n = d.n := finAll_n _ _
    have y1 : w2.cell? ⟨H, 1, none⟩ = some (.int .i64 (k : Int)) := hc2.cell x1 HX.out
    have y2 : w2.cell? ⟨H, 2, none⟩ = some (.int .i64 (o : Int)) := hc2.cell x2 HX.out
    have HM2 : Hid (∀ j, j < 4 → w2.cell? ⟨H, 5 + j, none⟩ = some (.int .u8 (maskOf f j : Int))) := fun j hj => hc2.cell (HM.out j hj) HX.out
    have c0 : w2.cell? ⟨B, 0, none⟩ = some (.slice (some ⟨p2.G, 0, none⟩) (settleD d k).n p2.c) := by have := h2.cellB 0; rw [hp2] at this; exact this
    rw [hn2] at c0
    have i1 : (0 : Int) ≤ (k : Int) := Int.natCast_nonneg _
    have i2 : (k : Int) < (d.n : Int) := by have := HK.out; omega
    have HGH := Lib.hid (show p2.G ≠ H from fun e => by
      rcases hf2 p2.G (Or.inr (Or.inl rfl)) with q | q
      · exact HX.out (e ▸ q)
      · have := HH1.out; omega)
    obtain ⟨E, hE⟩ : ∃ E, E = settleD d k := ⟨_, rfl⟩
    rw [← hE] at h2 hn2 hf2
    have HEE := Lib.hid hE
    have HN2 := Lib.hid hn2
    have HFIN : Hid (∀ w3, DevIs base w3 p2 (rotAt E k o (maskOf f) N) → Ch (fun j => j = p2.G) w2 w3 → DPost base ⟨B, G, V, m, cG⟩ d (rotAt E k o (maskOf f) N) (.int .i64 0) w (.returned (.int .i64 0)) w3) := fun w3 h3 k3 => by
      have k1 : Ch (Foot ⟨B, G, V, m, cG⟩ d) w w2 := (HR.out.ch.mono fun _ _ f => f.elim).trans hc2
      have hff : ∀ i, Foot p2 E i → Foot ⟨B, G, V, m, cG⟩ d i ∨ w.heap.size ≤ i := fun i hi => by
        rcases hf2 i hi with q | q
        · exact Or.inl q
        · exact Or.inr (Nat.le_trans HR.out.ch.size q)
      refine ⟨rfl, p2, hp2, h3, hff, ⟨k3.os.trans k1.os, k3.tape.trans k1.tape, k3.output.trans k1.output, Nat.le_trans k1.size k3.size, fun i hi hS => ?_⟩⟩
      rw [k3.block i (Nat.lt_of_lt_of_le hi k1.size) (fun e => by
        rcases hff i (Or.inr (Or.inl e)) with q | q
        · exact hS q
        · omega)]
      exact k1.block i hi hS
    have H2 := Lib.hid h2
    have HB2 := Lib.hid (h2.byt k)
    obtain ⟨G2, hG2⟩ : ∃ G2, G2 = p2.G := ⟨_, rfl⟩
    have HG2 := Lib.hid hG2
    rw [← hG2] at c0 HGH HFIN
    clear h2 hf2 hc2 hp2 hR x1 x2 hn2 hE hG2
    go_quiet (fail)
    rcases (by omega : ((4 : Int) ≤ 256 - (o : Int) ∧ N = 4) ∨ (256 - (o : Int) < 4 ∧ (N : Int) = 256 - (o : Int))) with ⟨hm1, hm2⟩ | ⟨hm1, hm2⟩
    · go_wp2
      rw [show (4 : Int) = (N : Int) by omega]
      clear hm1 hm2 eN y1
      have HS0 := Lib.hid (show DevIs base (w2.drewN nq) p2 (rotAt E k o (maskOf f) 0) ∧ Ch (fun q => q = G2) w2 (w2.drewN nq) by rw [rotAt_zero]; exact ⟨H2.out.gr ((Ch.refl _ _).drewN nq), (Ch.refl _ _).drewN nq⟩)
      go_loopw [6, 30] (fun _ i wr => ∃ j : Nat, j ≤ N ∧ i = .int .i64 j ∧ Hid (DevIs base wr p2 (rotAt E k o (maskOf f) j) ∧ Ch (fun q => q = G2) w2 wr)) (fun _ i _ => N - (intOf i).toNat)
      case atStart => exact ⟨0, Nat.zero_le _, rfl, HS0⟩
      case round =>
        obtain ⟨j, hj, rfl, HJ⟩ := hrel
        by_cases hlt : j < N
        · have a1 : wr.cell? ⟨H, 2, none⟩ = some (.int .i64 (o : Int)) := HJ.out.2.cell y2 (fun e => HGH.out e.symm)
          have a2 : wr.cell? ⟨H, 5 + j, none⟩ = some (.int .u8 (maskOf f j : Int)) := HJ.out.2.cell (HM2.out j (by omega)) (fun e => HGH.out e.symm)
          have hkE : k < (rotAt E k o (maskOf f) j).n := by show k < E.n; rw [HN2.out]; exact HK.out
          have hb0 := HB2.out (o + j) (by rw [HN2.out]; exact HK.out) (by omega)
          have a3 : wr.cell? ⟨G2, k * 259 + (o + j), none⟩ = some (.int .u8 (E.has k (o + j) : Int)) := by
            rw [HG2.out, HJ.out.1.cellG hkE (by omega)]
            unfold secV
            rw [if_pos (by omega)]
            show some (Value.int .u8 ((up E.has k (rotZ (E.has k) o (maskOf f) j) k (o + j) : Nat) : Int)) = _
            rw [up_same, rotZ_at]
          have f3 : wr.frozen? ⟨G2, k * 259 + (o + j), none⟩ = false := by rw [HG2.out]; exact HJ.out.1.frG _
          have hmj := HML.out j
          have hxo : bits .xor .u8 (E.has k (o + j) : Int) (maskOf f j : Int) = ((E.has k (o + j) ^^^ maskOf f j : Nat) : Int) := u8_xor_nat _ _ hb0 hmj
          have hnx := HJ.out.1.setByte hkE (c := o + j) (x := E.has k (o + j) ^^^ maskOf f j) (by omega) (xor8 hb0 hmj)
          rw [rotAt_succ, ← HG2.out] at hnx
          have HNX := Lib.hid hnx
          have HCX := Lib.hid (show Ch (fun q => q = G2) w2 (wr.setCell ⟨G2, k * 259 + (o + j), none⟩ (.int .u8 ((E.has k (o + j) ^^^ maskOf f j : Nat) : Int))) from Ch.setCell (S := fun q => q = G2) HJ.out.2 (p := ⟨G2, k * 259 + (o + j), none⟩) (Or.inl rfl) _)
          obtain ⟨X, hX⟩ : ∃ X : Nat, X = E.has k (o + j) := ⟨_, rfl⟩
          obtain ⟨M, hM⟩ : ∃ M : Nat, M = maskOf f j := ⟨_, rfl⟩
          rw [← hX, ← hM] at hxo HNX HCX
          rw [← hX] at a3
          rw [← hM] at a2
          have j1 : (0 : Int) ≤ (j : Int) := Int.natCast_nonneg _
          have j2 : (j : Int) < 4 := by omega
          have j3 : (o : Int) + (j : Int) < 256 := by omega
          have j4 : (0 : Int) ≤ (o : Int) + (j : Int) := by omega
          have j5 : IntKind.i64.wrap ((o : Int) + (j : Int)) = (o : Int) + (j : Int) := by rw [IntKind.wrap_i64]; omega
          have j6 : ((o : Int) + (j : Int)).toNat = o + j := by omega
          clear hnx hb0 hmj hkE hX hM
          go_wp2
          go_region
          all_goals
            go_wp2
            go_roundw
            case rel => exact ⟨j + 1, by omega, by go_num, Lib.hid ⟨HNX.out.gr (Ch.refl _ _).drew, HCX.out.drew⟩⟩
            case measure => simp [intOf]; omega
        · obtain rfl : j = N := by omega
          have hpf := HFIN.out wr HJ.out.1 HJ.out.2
          rw [HEE.out] at hpf
          have HP := Lib.hid hpf
          clear hpf
          go_wp2
          go_ret
          exact HP.out
    · go_wp2
      rw [← hm2]
      clear hm1 hm2 eN y1
      have HS0 := Lib.hid (show DevIs base (w2.drewN nq) p2 (rotAt E k o (maskOf f) 0) ∧ Ch (fun q => q = G2) w2 (w2.drewN nq) by rw [rotAt_zero]; exact ⟨H2.out.gr ((Ch.refl _ _).drewN nq), (Ch.refl _ _).drewN nq⟩)
      go_loopw [6, 30] (fun _ i wr => ∃ j : Nat, j ≤ N ∧ i = .int .i64 j ∧ Hid (DevIs base wr p2 (rotAt E k o (maskOf f) j) ∧ Ch (fun q => q = G2) w2 wr)) (fun _ i _ => N - (intOf i).toNat)
      case atStart => exact ⟨0, Nat.zero_le _, rfl, HS0⟩
      case round =>
        obtain ⟨j, hj, rfl, HJ⟩ := hrel
        by_cases hlt : j < N
        · have a1 : wr.cell? ⟨H, 2, none⟩ = some (.int .i64 (o : Int)) := HJ.out.2.cell y2 (fun e => HGH.out e.symm)
          have a2 : wr.cell? ⟨H, 5 + j, none⟩ = some (.int .u8 (maskOf f j : Int)) := HJ.out.2.cell (HM2.out j (by omega)) (fun e => HGH.out e.symm)
          have hkE : k < (rotAt E k o (maskOf f) j).n := by show k < E.n; rw [HN2.out]; exact HK.out
          have hb0 := HB2.out (o + j) (by rw [HN2.out]; exact HK.out) (by omega)
          have a3 : wr.cell? ⟨G2, k * 259 + (o + j), none⟩ = some (.int .u8 (E.has k (o + j) : Int)) := by
            rw [HG2.out, HJ.out.1.cellG hkE (by omega)]
            unfold secV
            rw [if_pos (by omega)]
            show some (Value.int .u8 ((up E.has k (rotZ (E.has k) o (maskOf f) j) k (o + j) : Nat) : Int)) = _
            rw [up_same, rotZ_at]
          have f3 : wr.frozen? ⟨G2, k * 259 + (o + j), none⟩ = false := by rw [HG2.out]; exact HJ.out.1.frG _
          have hmj := HML.out j
          have hxo : bits .xor .u8 (E.has k (o + j) : Int) (maskOf f j : Int) = ((E.has k (o + j) ^^^ maskOf f j : Nat) : Int) := u8_xor_nat _ _ hb0 hmj
          have hnx := HJ.out.1.setByte hkE (c := o + j) (x := E.has k (o + j) ^^^ maskOf f j) (by omega) (xor8 hb0 hmj)
          rw [rotAt_succ, ← HG2.out] at hnx
          have HNX := Lib.hid hnx
          have HCX := Lib.hid (show Ch (fun q => q = G2) w2 (wr.setCell ⟨G2, k * 259 + (o + j), none⟩ (.int .u8 ((E.has k (o + j) ^^^ maskOf f j : Nat) : Int))) from Ch.setCell (S := fun q => q = G2) HJ.out.2 (p := ⟨G2, k * 259 + (o + j), none⟩) (Or.inl rfl) _)
          obtain ⟨X, hX⟩ : ∃ X : Nat, X = E.has k (o + j) := ⟨_, rfl⟩
          obtain ⟨M, hM⟩ : ∃ M : Nat, M = maskOf f j := ⟨_, rfl⟩
          rw [← hX, ← hM] at hxo HNX HCX
          rw [← hX] at a3
          rw [← hM] at a2
          have j1 : (0 : Int) ≤ (j : Int) := Int.natCast_nonneg _
          have j2 : (j : Int) < 4 := by omega
          have j3 : (o : Int) + (j : Int) < 256 := by omega
          have j4 : (0 : Int) ≤ (o : Int) + (j : Int) := by omega
          have j5 : IntKind.i64.wrap ((o : Int) + (j : Int)) = (o : Int) + (j : Int) := by rw [IntKind.wrap_i64]; omega
          have j6 : ((o : Int) + (j : Int)).toNat = o + j := by omega
          clear hnx hb0 hmj hkE hX hM
          go_wp2
          go_region
          all_goals
            go_wp2
            go_roundw
            case rel => exact ⟨j + 1, by omega, by go_num, Lib.hid ⟨HNX.out.gr (Ch.refl _ _).drew, HCX.out.drew⟩⟩
            case measure => simp [intOf]; omega
        · obtain rfl : j = N := by omega
          have hpf := HFIN.out wr HJ.out.1 HJ.out.2
          rw [HEE.out] at hpf
          have HP := Lib.hid hpf
          clear hpf
          go_wp2
          go_ret
          exact HP.out
end Go.Proofs.YtlbdopcchoklhaaGreat
namespace Go.Proofs.YtlbdopcchoklhaaGreat
open Go.RowKit
set_option linter.unusedVariables false
set_option maxRecDepth 100000

def fnV (f : Nat) : Value := .func (.func f) #[] #[]
def ent (k : Int) (f c : Nat) : MapEntry := { key := .int .i64 k, val := fnV f, born := c }
def fmap : Array MapEntry := #[ent 1 89 0, ent 2 90 1, ent 3 91 2, ent 4 92 3, ent 5 93 4]
theorem under_map : Tryz.prog.underlying 85 = some (.map 3 83) := by kernel_rfl
theorem zero_fn (w : World) : (zeroValue 83).run Tryz.prog w = .ok .nilFunc w := by
  have h : (Tryz.prog.info? 83).map (·.zero) = some (some .nilFunc) := by kernel_rfl
  cases hq : Tryz.prog.info? 83 with
  | none => rw [hq] at h; cases h
  | some i => rw [hq] at h; simp at h; simp [zeroValue, typeInfo, hq, h]
theorem chk (e : Bool) (k : Int) (w : World) : (Instr.checkKey e 10000 3 (.int .i64 k)).run Tryz.prog w = .ok () w := MapKept.run_checkKey Tryz.underlying3 (by simp [MapKept.IsKey]) e 9999
theorem upd_alloc (w0 : World) (es : Array MapEntry) (c : Nat) (k : Int) (v : Value) (hn : Instr.findNow (.int .i64) (.int .i64 k) es.toList 0 = some none) :
    (Instr.mapUpdate 85 (.map (some w0.heap.size)) (.int .i64 k) v).run Tryz.prog (w0.alloc (.map es c)) = .ok () (w0.alloc (.map (es.push { key := .int .i64 k, val := v, born := c }) (c + 1))) := by
  have hb : (w0.alloc (.map es c)).heap[w0.heap.size]? = some (.map es c) := heap_alloc_new _ _
  have he : ({ (w0.alloc (.map es c)) with heap := (w0.alloc (.map es c)).heap.setIfInBounds w0.heap.size (.map (es.push { key := .int .i64 k, val := v, born := c }) (c + 1)) } : World) = w0.alloc (.map (es.push { key := .int .i64 k, val := v, born := c }) (c + 1)) := by
    simp only [World.alloc]
    congr 1
    apply Array.ext_getElem?
    intro i
    by_cases h : w0.heap.size = i
    · subst h
      simp
    · have h' : ¬ i = w0.heap.size := fun e => h e.symm
      simp [h, h', Array.getElem?_push]
  simp only [Instr.mapUpdate, Sem.run_bind, run_underlying under_map, Result.andThen_ok, MapKept.run_getObj_map hb, chk, Instr.findKey, run_underlying Tryz.underlying3, hn, Sem.run_pure, MapKept.run_setObj_map _ hb, he]
theorem look_map (w : World) (H : Nat) (k : Int) (hb : w.heap[H]? = some (.map fmap 5)) (v : Value) (b : Bool)
    (h : (match Instr.findNow (.int .i64) (.int .i64 k) fmap.toList 0 with | some (some x) => (x.2, true) | _ => (.nilFunc, false)) = (v, b)) (hs : (Instr.findNow (.int .i64) (.int .i64 k) fmap.toList 0).isSome = true) :
    (Instr.lookup 85 (.map (some H)) (.int .i64 k) true).run Tryz.prog w = .ok (.tuple #[v, .bool b]) w := by
  cases hq : Instr.findNow (.int .i64) (.int .i64 k) fmap.toList 0 with
  | none => rw [hq] at hs; cases hs
  | some r =>
    rw [hq] at h
    cases r with
    | none =>
      injection h with h1 h2
      subst h1
      subst h2
      simp only [Instr.lookup, Sem.run_bind, run_underlying under_map, Result.andThen_ok, MapKept.run_getObj_map hb, Sem.run_pure, chk, Instr.findKey, run_underlying Tryz.underlying3, hq, zero_fn, ↓reduceIte]
    | some x =>
      injection h with h1 h2
      subst h1
      subst h2
      simp only [Instr.lookup, Sem.run_bind, run_underlying under_map, Result.andThen_ok, MapKept.run_getObj_map hb, Sem.run_pure, chk, Instr.findKey, run_underlying Tryz.underlying3, hq, ↓reduceIte]
theorem wpList_inserting {P : Program} {ops : Array Oper} {rest : List Oper} {o : Oper} {a : Act} {Q : Exit → Act → World → Prop} (w w' : World) (hgd : o.guard = none) (t : TypeId) (m k x : Operand) (ho : o.op = .insert t m k x) {mv kv xv : Value} (hm : a.eval m = mv) (hk : a.eval k = kv) (hx : a.eval x = xv)
    (hr : (Instr.mapUpdate t mv kv xv).run P w = .ok () w') (h : wpList P ops Q rest (a.put o.dst undef) w') : wpList P ops Q (o :: rest) a w := by
  refine wpList_plain hgd fun K hK => ?_
  unfold Oper.wp execOp
  simp only [ho, hm, hk, hx, Sem.run_bind, Sem.run_pure, Result.andThen_ok, hr]
  exact hK _ _ h
set_option maxHeartbeats 800000 in
theorem faults_any (w : World) : Calls Tryz.prog 51 #[] w fun e w' => e = .returned (.map (some w.heap.size)) ∧ w' = w.alloc (.map fmap 5) := by
  have u1 : (Instr.mapUpdate 85 (.map (some w.heap.size)) (.int .i64 1) (fnV 89)).run Tryz.prog (w.alloc (.map #[] 0)) = .ok () (w.alloc (.map #[ent 1 89 0] 1)) := upd_alloc w #[] 0 1 (fnV 89) rfl
  have u2 : (Instr.mapUpdate 85 (.map (some w.heap.size)) (.int .i64 2) (fnV 90)).run Tryz.prog (w.alloc (.map #[ent 1 89 0] 1)) = .ok () (w.alloc (.map #[ent 1 89 0, ent 2 90 1] 2)) := upd_alloc w #[ent 1 89 0] 1 2 (fnV 90) rfl
  have u3 : (Instr.mapUpdate 85 (.map (some w.heap.size)) (.int .i64 3) (fnV 91)).run Tryz.prog (w.alloc (.map #[ent 1 89 0, ent 2 90 1] 2)) = .ok () (w.alloc (.map #[ent 1 89 0, ent 2 90 1, ent 3 91 2] 3)) := upd_alloc w #[ent 1 89 0, ent 2 90 1] 2 3 (fnV 91) rfl
  have u4 : (Instr.mapUpdate 85 (.map (some w.heap.size)) (.int .i64 4) (fnV 92)).run Tryz.prog (w.alloc (.map #[ent 1 89 0, ent 2 90 1, ent 3 91 2] 3)) = .ok () (w.alloc (.map #[ent 1 89 0, ent 2 90 1, ent 3 91 2, ent 4 92 3] 4)) := upd_alloc w #[ent 1 89 0, ent 2 90 1, ent 3 91 2] 3 4 (fnV 92) rfl
  have u5 : (Instr.mapUpdate 85 (.map (some w.heap.size)) (.int .i64 5) (fnV 93)).run Tryz.prog (w.alloc (.map #[ent 1 89 0, ent 2 90 1, ent 3 91 2, ent 4 92 3] 4)) = .ok () (w.alloc (.map #[ent 1 89 0, ent 2 90 1, ent 3 91 2, ent 4 92 3, ent 5 93 4] 5)) := upd_alloc w #[ent 1 89 0, ent 2 90 1, ent 3 91 2, ent 4 92 3] 4 5 (fnV 93) rfl
  have hmm := run_makeMap (P := Tryz.prog) 85 w
  obtain ⟨H, hH⟩ : ∃ H, H = w.heap.size := ⟨_, rfl⟩
  rw [← hH] at u1 u2 u3 u4 u5 hmm ⊢
  obtain ⟨w0, hw0⟩ : ∃ w0, w0 = w.alloc (.map #[] 0) := ⟨_, rfl⟩
  obtain ⟨w1, hw1⟩ : ∃ w1, w1 = w.alloc (.map #[ent 1 89 0] 1) := ⟨_, rfl⟩
  obtain ⟨w2, hw2⟩ : ∃ w2, w2 = w.alloc (.map #[ent 1 89 0, ent 2 90 1] 2) := ⟨_, rfl⟩
  obtain ⟨w3, hw3⟩ : ∃ w3, w3 = w.alloc (.map #[ent 1 89 0, ent 2 90 1, ent 3 91 2] 3) := ⟨_, rfl⟩
  obtain ⟨w4, hw4⟩ : ∃ w4, w4 = w.alloc (.map #[ent 1 89 0, ent 2 90 1, ent 3 91 2, ent 4 92 3] 4) := ⟨_, rfl⟩
  obtain ⟨w5, hw5⟩ : ∃ w5, w5 = w.alloc (.map #[ent 1 89 0, ent 2 90 1, ent 3 91 2, ent 4 92 3, ent 5 93 4] 5) := ⟨_, rfl⟩
  rw [← hw0] at u1 hmm
  rw [← hw1] at u1 u2
  rw [← hw2] at u2 u3
  rw [← hw3] at u3 u4
  rw [← hw4] at u4 u5
  rw [← hw5] at u5
  rw [show fmap = #[ent 1 89 0, ent 2 90 1, ent 3 91 2, ent 4 92 3, ent 5 93 4] from rfl, ← hw5]
  have U1 := Lib.hid u1
  have U2 := Lib.hid u2
  have U3 := Lib.hid u3
  have U4 := Lib.hid u4
  have U5 := Lib.hid u5
  clear u1 u2 u3 u4 u5 hw0 hw1 hw2 hw3 hw4 hw5 hH
  go_enter Tryz.func51, Tryz.ntmps51
  go_wp2_with ((with_reducible refine wpList_same ?_); first
    | refine wpList_inserting _ w1 rfl 85 (.tmp 1) (.const (.int .i64 1)) (.func 89) rfl (mv := .map (some H)) (kv := .int .i64 1) (xv := fnV 89) rfl rfl rfl (by exact U1.out) ?_
    | refine wpList_inserting _ w2 rfl 85 (.tmp 1) (.const (.int .i64 2)) (.func 90) rfl (mv := .map (some H)) (kv := .int .i64 2) (xv := fnV 90) rfl rfl rfl (by exact U2.out) ?_
    | refine wpList_inserting _ w3 rfl 85 (.tmp 1) (.const (.int .i64 3)) (.func 91) rfl (mv := .map (some H)) (kv := .int .i64 3) (xv := fnV 91) rfl rfl rfl (by exact U3.out) ?_
    | refine wpList_inserting _ w4 rfl 85 (.tmp 1) (.const (.int .i64 4)) (.func 92) rfl (mv := .map (some H)) (kv := .int .i64 4) (xv := fnV 92) rfl rfl rfl (by exact U4.out) ?_
    | refine wpList_inserting _ w5 rfl 85 (.tmp 1) (.const (.int .i64 5)) (.func 93) rfl (mv := .map (some H)) (kv := .int .i64 5) (xv := fnV 93) rfl rfl rfl (by exact U5.out) ?_)
  go_ret
  exact ⟨rfl, rfl⟩
end Go.Proofs.YtlbdopcchoklhaaGreat
