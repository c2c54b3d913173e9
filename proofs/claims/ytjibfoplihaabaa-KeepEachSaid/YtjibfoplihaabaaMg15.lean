/-
  (*disk.Disk).rot, walked.
-/
import Derived.Test.YtjibfoplihaabaaMg11
import Derived.BigRegion
import Derived.Laws.BitsAllLaws
namespace Go.Proofs.Ytjibfoplihaabaa
open Go.RowKit
set_option linter.unusedVariables false
set_option maxRecDepth 100000

def rotZ (z : Nat → Nat) (off : Nat) (m : Nat → Nat) (n c : Nat) : Nat := if off ≤ c ∧ c < off + n then z c ^^^ m (c - off) else z c
def maskOf (f : Fa) (j : Nat) : Nat := if j = 0 then f.k0 else if j = 1 then f.k1 else if j = 2 then f.k2 else f.k3
theorem mask_lt {f : Fa} (h : FaOk f) (j : Nat) : maskOf f j < 256 := by
  unfold maskOf
  split
  · exact h.k0
  · split
    · exact h.k1
    · split
      · exact h.k2
      · exact h.k3
theorem mask_cell {f : Fa} {j : Nat} (h : j < 4) : (faC f)[5 + j]? = some (.int .u8 (maskOf f j : Int)) := by
  match j, h with
  | 0, _ => rfl
  | 1, _ => rfl
  | 2, _ => rfl
  | 3, _ => rfl
theorem rotZ_zero (z : Nat → Nat) (off : Nat) (m : Nat → Nat) : rotZ z off m 0 = z := funext fun c => by unfold rotZ; rw [if_neg (by omega)]
theorem rotZ_succ (z : Nat → Nat) (off : Nat) (m : Nat → Nat) (n : Nat) : up (rotZ z off m n) (off + n) (z (off + n) ^^^ m n) = rotZ z off m (n + 1) := funext fun c => by
  unfold up rotZ
  by_cases q : c = off + n
  · rw [if_pos q, if_pos (by omega), q, show off + n - off = n by omega]
  · rw [if_neg q]
    by_cases q2 : off ≤ c ∧ c < off + n
    · rw [if_pos q2, if_pos (by omega)]
    · rw [if_neg q2, if_neg (by omega)]
theorem rotZ_at (z : Nat → Nat) (off : Nat) (m : Nat → Nat) (n : Nat) : rotZ z off m n (off + n) = z (off + n) := by unfold rotZ; rw [if_neg (by omega)]
theorem xor8 {a b : Nat} (ha : a < 256) (hb : b < 256) : a ^^^ b < 256 := Nat.xor_lt_two_pow (n := 8) ha hb
theorem rotZ_lt {z m : Nat → Nat} {off n : Nat} (hz : Bytes 256 z) (hm : ∀ j, m j < 256) : Bytes 256 (rotZ z off m n) := fun c hc => by
  unfold rotZ
  split
  · exact xor8 (hz c hc) (hm _)
  · exact hz c hc
theorem up_up {α : Type} (f : Nat → α) (a : Nat) (x y : α) : up (up f a x) a y = up f a y := funext fun i => by unfold up; split <;> rfl
theorem up_id {α : Type} (f : Nat → α) (a : Nat) : up f a (f a) = f := funext fun i => by unfold up; split; rename_i h; rw [h]; rfl
theorem DevIs.setByte {base : Nat} {w : World} {p : Ph} {d : Dev} (h : DevIs base w p d) {a c x : Nat} (ha : a < d.n) (hc : c < 256) (hx : x < 256) : DevIs base (w.setCell ⟨p.G, a * 259 + c, none⟩ (.int .u8 (x : Int))) p { d with has := up d.has a (up (d.has a) c x) } := by
  have hk := chG w p (a * 259 + c) (.int .u8 (x : Int))
  refine h.turn (d' := { d with has := up d.has a (up (d.has a) c x) }) (hk.mono fun _ _ e => Or.inr e) ((hk.block _ (blk_lt h.blk) h.BG).trans h.blk) (sec_set h ha (by omega) _ _ _ ?_ ?_) rfl rfl rfl ?_ h.lf
  · unfold secV
    rw [if_pos hc]
    show Value.int .u8 ((up d.has a (up (d.has a) c x) a c : Nat) : Int) = _
    rw [up_same, up_same]
  · intro b j hj hn
    unfold secV
    by_cases q : j < 256
    · rw [if_pos q, if_pos q]
      show Value.int .u8 ((up d.has a (up (d.has a) c x) b j : Nat) : Int) = _
      by_cases q2 : b = a
      · rw [q2, up_same, up_other _ _ (fun e => hn ⟨q2, e⟩)]
      · rw [up_other _ _ q2]
    · rw [if_neg q, if_neg q]
  · intro b j hb hj
    show up d.has a (up (d.has a) c x) b j < 256
    by_cases q2 : b = a
    · rw [q2, up_same]
      by_cases q3 : j = c
      · rw [q3, up_same]; exact hx
      · rw [up_other _ _ q3]; exact h.byt a j ha hj
    · rw [up_other _ _ q2]; exact h.byt b j hb hj
def rotE (f : Fa) : Int := if f.off < 0 ∨ 256 ≤ f.off then 1 else 0
def rotAt (d : Dev) (k off : Nat) (m : Nat → Nat) (n : Nat) : Dev := { d with has := up d.has k (rotZ (d.has k) off m n) }
def rotD (d : Dev) (f : Fa) : Dev := if f.off < 0 ∨ 256 ≤ f.off then d else rotAt (settleD d f.pl.toNat) f.pl.toNat f.off.toNat (maskOf f) (min 4 (256 - f.off.toNat))
theorem rotAt_zero (d : Dev) (k off : Nat) (m : Nat → Nat) : rotAt d k off m 0 = d := by unfold rotAt; rw [rotZ_zero, up_id]
theorem rotAt_succ (d : Dev) (k off : Nat) (m : Nat → Nat) (n : Nat) : ({ rotAt d k off m n with has := up (rotAt d k off m n).has k (up ((rotAt d k off m n).has k) (off + n) (d.has k (off + n) ^^^ m n)) } : Dev) = rotAt d k off m (n + 1) := by
  unfold rotAt
  have e : up d.has k (rotZ (d.has k) off m n) k = rotZ (d.has k) off m n := up_same _ _ _
  show ({ d with has := up (up d.has k (rotZ (d.has k) off m n)) k (up (up d.has k (rotZ (d.has k) off m n) k) (off + n) _) } : Dev) = _
  rw [e, up_up, rotZ_succ]
set_option maxHeartbeats 1600000 in
set_option maxRecDepth 100000 in
theorem rot_any (base : Nat) (p : Ph) (d : Dev) (f : Fa) (w : World) (h : DevIs base w p d) (hf : FaOk f) (hW : d.W.length ≤ 1048576) (hp : 0 ≤ f.pl ∧ f.pl < d.n) :
    Calls Try.prog 48 #[.pointer (some ⟨p.B, 0, none⟩), .agg (faC f)] w (DPost base p d (rotD d f) (.int .i64 (rotE f)) w) := by
  obtain ⟨w1, H, hR⟩ := faR w f
  obtain ⟨k, hk⟩ : ∃ k : Nat, f.pl = (k : Int) := ⟨f.pl.toNat, by omega⟩
  have hkn : k < d.n := by omega
  have h1 : DevIs base w1 p d := h.gr hR.ch
  have HR := Lib.hid hR
  by_cases hq : f.off < 0 ∨ 256 ≤ f.off
  · have hS : rotE f = 1 ∧ rotD d f = d := by unfold rotE rotD; rw [if_pos hq, if_pos hq]; exact ⟨rfl, rfl⟩
    rw [hS.1, hS.2]
    have x2 : w1.cell? ⟨H, 2, none⟩ = some (.int .i64 f.off) := hR.at 2
    have HP := Lib.hid (DPost.turned (base := base) (r := .int .i64 1) h1 rfl (hR.ch.mono fun _ _ f => f.elim) (w := w))
    obtain ⟨B, G, V, m, cG⟩ := p
    clear h h1 hR hk hS hf hp
    by_cases hq1 : f.off < 0
    · clear hq
      go_enter Try.func48, Try.ntmps48
      go_wp2_with ((with_reducible refine wpList_same ?_); refine wpList_boxing _ w1 rfl 45 (.tmp 1) rfl (faC f) H rfl (by exact HR.out.sz) (by exact HR.out.al) ?_)
      go_ret
      exact HP.out
    · have hq2 : 256 ≤ f.off := by omega
      clear hq
      go_enter Try.func48, Try.ntmps48
      go_wp2_with ((with_reducible refine wpList_same ?_); refine wpList_boxing _ w1 rfl 45 (.tmp 1) rfl (faC f) H rfl (by exact HR.out.sz) (by exact HR.out.al) ?_)
      go_ret
      exact HP.out
  · obtain ⟨o, ho⟩ : ∃ o : Nat, f.off = (o : Int) := ⟨f.off.toNat, by omega⟩
    have ho256 : o < 256 := by omega
    obtain ⟨N, hN⟩ : ∃ N, N = min 4 (256 - o) := ⟨_, rfl⟩
    have hS : rotE f = 0 ∧ rotD d f = rotAt (settleD d k) k o (maskOf f) N := by unfold rotE rotD; rw [if_neg hq, if_neg hq, hk, ho, hN, Int.toNat_natCast, Int.toNat_natCast]; exact ⟨rfl, rfl⟩
    rw [hS.1, hS.2]
    have x1 : w1.cell? ⟨H, 1, none⟩ = some (.int .i64 (k : Int)) := by rw [← hk]; exact hR.at 1
    have x2 : w1.cell? ⟨H, 2, none⟩ = some (.int .i64 (o : Int)) := by rw [← ho]; exact hR.at 2
    have HM : Hid (∀ j, j < 4 → w1.cell? ⟨H, 5 + j, none⟩ = some (.int .u8 (maskOf f j : Int))) := fun j hj => by rw [hR.at]; exact mask_cell hj
    have HT := Lib.hid (settle_any base p d k w1 h1 hW)
    have HX := Lib.hid (show ¬ Foot p d H from fun q => by have := (h.foot q).2; have := hR.sz; omega)
    have HH1 := Lib.hid (show H < w1.heap.size from blk_lt hR.cx)
    have HK := Lib.hid hkn
    have HML := Lib.hid (mask_lt hf)
    have hN4 : N ≤ 4 := by omega
    have hoN : o + N ≤ 256 := by omega
    have eN : (N : Int) = min 4 (256 - (o : Int)) := by omega
    have q1 : ¬ (o : Int) < 0 := by omega
    have q2 : (o : Int) < 256 := by omega
    clear h h1 hp hW hq hS hk ho hf hN
    obtain ⟨B, G, V, m, cG⟩ := p
    go_enter Try.func48, Try.ntmps48
    go_wp2_with (first
      | ((with_reducible refine wpList_same ?_); refine wpList_boxing _ w1 rfl 45 (.tmp 1) rfl (faC f) H rfl (by exact HR.out.sz) (by exact HR.out.al) ?_)
      | (go_at_call 58; refine HT.out.mono ?_; rintro e w2 ⟨rfl, p2, hp2, h2, hf2, hc2⟩))
    have hn2 : (settleD d k).n = d.n := finAll_n _ _
    have y1 : w2.cell? ⟨H, 1, none⟩ = some (.int .i64 (k : Int)) := hc2.cell x1 HX.out
    have y2 : w2.cell? ⟨H, 2, none⟩ = some (.int .i64 (o : Int)) := hc2.cell x2 HX.out
    have HM2 : Hid (∀ j, j < 4 → w2.cell? ⟨H, 5 + j, none⟩ = some (.int .u8 (maskOf f j : Int))) := fun j hj => hc2.cell (HM.out j hj) HX.out
    have c0 : w2.cell? ⟨B, 0, none⟩ = some (.slice (some ⟨p2.G, 0, none⟩) (settleD d k).n p2.c) := by have := h2.cellB 0; rw [hp2] at this; exact this
    rw [hn2] at c0
    have i1 : (0 : Int) ≤ (k : Int) := Int.natCast_nonneg _
    have i2 : (k : Int) < (d.n : Int) := by have := HK.out; omega
    have HGH := Lib.hid (show p2.G ≠ H from fun e => by
      rcases hf2 p2.G (Or.inr (Or.inl rfl)) with q | q
      · exact HX.out (e ▸ q)
      · have := HH1.out; omega)
    obtain ⟨E, hE⟩ : ∃ E, E = settleD d k := ⟨_, rfl⟩
    rw [← hE] at h2 hn2 hf2
    have HEE := Lib.hid hE
    have HN2 := Lib.hid hn2
    have HFIN : Hid (∀ w3, DevIs base w3 p2 (rotAt E k o (maskOf f) N) → Ch (fun j => j = p2.G) w2 w3 → DPost base ⟨B, G, V, m, cG⟩ d (rotAt E k o (maskOf f) N) (.int .i64 0) w (.returned (.int .i64 0)) w3) := fun w3 h3 k3 => by
      have k1 : Ch (Foot ⟨B, G, V, m, cG⟩ d) w w2 := (HR.out.ch.mono fun _ _ f => f.elim).trans hc2
      have hff : ∀ i, Foot p2 E i → Foot ⟨B, G, V, m, cG⟩ d i ∨ w.heap.size ≤ i := fun i hi => by
        rcases hf2 i hi with q | q
        · exact Or.inl q
        · exact Or.inr (Nat.le_trans HR.out.ch.size q)
      refine ⟨rfl, p2, hp2, h3, hff, ⟨k3.os.trans k1.os, k3.tape.trans k1.tape, k3.output.trans k1.output, Nat.le_trans k1.size k3.size, fun i hi hS => ?_⟩⟩
      rw [k3.block i (Nat.lt_of_lt_of_le hi k1.size) (fun e => by
        rcases hff i (Or.inr (Or.inl e)) with q | q
        · exact hS q
        · omega)]
      exact k1.block i hi hS
    have H2 := Lib.hid h2
    have HB2 := Lib.hid (h2.byt k)
    obtain ⟨G2, hG2⟩ : ∃ G2, G2 = p2.G := ⟨_, rfl⟩
    have HG2 := Lib.hid hG2
    rw [← hG2] at c0 HGH HFIN
    clear h2 hf2 hc2 hp2 hR x1 x2 hn2 hE hG2
    go_quiet (fail)
    rcases (by omega : ((4 : Int) ≤ 256 - (o : Int) ∧ N = 4) ∨ (256 - (o : Int) < 4 ∧ (N : Int) = 256 - (o : Int))) with ⟨hm1, hm2⟩ | ⟨hm1, hm2⟩
    · go_wp2
      rw [show (4 : Int) = (N : Int) by omega]
      clear hm1 hm2 eN y1
      have HS0 := Lib.hid (show DevIs base (w2.drewN nq) p2 (rotAt E k o (maskOf f) 0) ∧ Ch (fun q => q = G2) w2 (w2.drewN nq) by rw [rotAt_zero]; exact ⟨H2.out.gr ((Ch.refl _ _).drewN nq), (Ch.refl _ _).drewN nq⟩)
      go_loopw [6, 30] (fun _ i wr => ∃ j : Nat, j ≤ N ∧ i = .int .i64 j ∧ Hid (DevIs base wr p2 (rotAt E k o (maskOf f) j) ∧ Ch (fun q => q = G2) w2 wr)) (fun _ i _ => N - (intOf i).toNat)
      case atStart => exact ⟨0, Nat.zero_le _, rfl, HS0⟩
      case round =>
        obtain ⟨j, hj, rfl, HJ⟩ := hrel
        by_cases hlt : j < N
        · have a1 : wr.cell? ⟨H, 2, none⟩ = some (.int .i64 (o : Int)) := HJ.out.2.cell y2 (fun e => HGH.out e.symm)
          have a2 : wr.cell? ⟨H, 5 + j, none⟩ = some (.int .u8 (maskOf f j : Int)) := HJ.out.2.cell (HM2.out j (by omega)) (fun e => HGH.out e.symm)
          have hkE : k < (rotAt E k o (maskOf f) j).n := by show k < E.n; rw [HN2.out]; exact HK.out
          have hb0 := HB2.out (o + j) (by rw [HN2.out]; exact HK.out) (by omega)
          have a3 : wr.cell? ⟨G2, k * 259 + (o + j), none⟩ = some (.int .u8 (E.has k (o + j) : Int)) := by
            rw [HG2.out, HJ.out.1.cellG hkE (by omega)]
            unfold secV
            rw [if_pos (by omega)]
            show some (Value.int .u8 ((up E.has k (rotZ (E.has k) o (maskOf f) j) k (o + j) : Nat) : Int)) = _
            rw [up_same, rotZ_at]
          have f3 : wr.frozen? ⟨G2, k * 259 + (o + j), none⟩ = false := by rw [HG2.out]; exact HJ.out.1.frG _
          have hmj := HML.out j
          have hxo : bits .xor .u8 (E.has k (o + j) : Int) (maskOf f j : Int) = ((E.has k (o + j) ^^^ maskOf f j : Nat) : Int) := u8_xor_nat _ _ hb0 hmj
          have hnx := HJ.out.1.setByte hkE (c := o + j) (x := E.has k (o + j) ^^^ maskOf f j) (by omega) (xor8 hb0 hmj)
          rw [rotAt_succ, ← HG2.out] at hnx
          have HNX := Lib.hid hnx
          have HCX := Lib.hid (show Ch (fun q => q = G2) w2 (wr.setCell ⟨G2, k * 259 + (o + j), none⟩ (.int .u8 ((E.has k (o + j) ^^^ maskOf f j : Nat) : Int))) from Ch.setCell (S := fun q => q = G2) HJ.out.2 (p := ⟨G2, k * 259 + (o + j), none⟩) (Or.inl rfl) _)
          obtain ⟨X, hX⟩ : ∃ X : Nat, X = E.has k (o + j) := ⟨_, rfl⟩
          obtain ⟨M, hM⟩ : ∃ M : Nat, M = maskOf f j := ⟨_, rfl⟩
          rw [← hX, ← hM] at hxo HNX HCX
          rw [← hX] at a3
          rw [← hM] at a2
          have j1 : (0 : Int) ≤ (j : Int) := Int.natCast_nonneg _
          have j2 : (j : Int) < 4 := by omega
          have j3 : (o : Int) + (j : Int) < 256 := by omega
          have j4 : (0 : Int) ≤ (o : Int) + (j : Int) := by omega
          have j5 : IntKind.i64.wrap ((o : Int) + (j : Int)) = (o : Int) + (j : Int) := by rw [IntKind.wrap_i64]; omega
          have j6 : ((o : Int) + (j : Int)).toNat = o + j := by omega
          clear hnx hb0 hmj hkE hX hM
          go_wp2
          go_region
          all_goals
            go_wp2
            go_roundw
            case rel => exact ⟨j + 1, by omega, by go_num, Lib.hid ⟨HNX.out.gr (Ch.refl _ _).drew, HCX.out.drew⟩⟩
            case measure => simp [intOf]; omega
        · obtain rfl : j = N := by omega
          have hpf := HFIN.out wr HJ.out.1 HJ.out.2
          rw [HEE.out] at hpf
          have HP := Lib.hid hpf
          clear hpf
          go_wp2
          go_ret
          exact HP.out
    · go_wp2
      rw [← hm2]
      clear hm1 hm2 eN y1
      have HS0 := Lib.hid (show DevIs base (w2.drewN nq) p2 (rotAt E k o (maskOf f) 0) ∧ Ch (fun q => q = G2) w2 (w2.drewN nq) by rw [rotAt_zero]; exact ⟨H2.out.gr ((Ch.refl _ _).drewN nq), (Ch.refl _ _).drewN nq⟩)
      go_loopw [6, 30] (fun _ i wr => ∃ j : Nat, j ≤ N ∧ i = .int .i64 j ∧ Hid (DevIs base wr p2 (rotAt E k o (maskOf f) j) ∧ Ch (fun q => q = G2) w2 wr)) (fun _ i _ => N - (intOf i).toNat)
      case atStart => exact ⟨0, Nat.zero_le _, rfl, HS0⟩
      case round =>
        obtain ⟨j, hj, rfl, HJ⟩ := hrel
        by_cases hlt : j < N
        · have a1 : wr.cell? ⟨H, 2, none⟩ = some (.int .i64 (o : Int)) := HJ.out.2.cell y2 (fun e => HGH.out e.symm)
          have a2 : wr.cell? ⟨H, 5 + j, none⟩ = some (.int .u8 (maskOf f j : Int)) := HJ.out.2.cell (HM2.out j (by omega)) (fun e => HGH.out e.symm)
          have hkE : k < (rotAt E k o (maskOf f) j).n := by show k < E.n; rw [HN2.out]; exact HK.out
          have hb0 := HB2.out (o + j) (by rw [HN2.out]; exact HK.out) (by omega)
          have a3 : wr.cell? ⟨G2, k * 259 + (o + j), none⟩ = some (.int .u8 (E.has k (o + j) : Int)) := by
            rw [HG2.out, HJ.out.1.cellG hkE (by omega)]
            unfold secV
            rw [if_pos (by omega)]
            show some (Value.int .u8 ((up E.has k (rotZ (E.has k) o (maskOf f) j) k (o + j) : Nat) : Int)) = _
            rw [up_same, rotZ_at]
          have f3 : wr.frozen? ⟨G2, k * 259 + (o + j), none⟩ = false := by rw [HG2.out]; exact HJ.out.1.frG _
          have hmj := HML.out j
          have hxo : bits .xor .u8 (E.has k (o + j) : Int) (maskOf f j : Int) = ((E.has k (o + j) ^^^ maskOf f j : Nat) : Int) := u8_xor_nat _ _ hb0 hmj
          have hnx := HJ.out.1.setByte hkE (c := o + j) (x := E.has k (o + j) ^^^ maskOf f j) (by omega) (xor8 hb0 hmj)
          rw [rotAt_succ, ← HG2.out] at hnx
          have HNX := Lib.hid hnx
          have HCX := Lib.hid (show Ch (fun q => q = G2) w2 (wr.setCell ⟨G2, k * 259 + (o + j), none⟩ (.int .u8 ((E.has k (o + j) ^^^ maskOf f j : Nat) : Int))) from Ch.setCell (S := fun q => q = G2) HJ.out.2 (p := ⟨G2, k * 259 + (o + j), none⟩) (Or.inl rfl) _)
          obtain ⟨X, hX⟩ : ∃ X : Nat, X = E.has k (o + j) := ⟨_, rfl⟩
          obtain ⟨M, hM⟩ : ∃ M : Nat, M = maskOf f j := ⟨_, rfl⟩
          rw [← hX, ← hM] at hxo HNX HCX
          rw [← hX] at a3
          rw [← hM] at a2
          have j1 : (0 : Int) ≤ (j : Int) := Int.natCast_nonneg _
          have j2 : (j : Int) < 4 := by omega
          have j3 : (o : Int) + (j : Int) < 256 := by omega
          have j4 : (0 : Int) ≤ (o : Int) + (j : Int) := by omega
          have j5 : IntKind.i64.wrap ((o : Int) + (j : Int)) = (o : Int) + (j : Int) := by rw [IntKind.wrap_i64]; omega
          have j6 : ((o : Int) + (j : Int)).toNat = o + j := by omega
          clear hnx hb0 hmj hkE hX hM
          go_wp2
          go_region
          all_goals
            go_wp2
            go_roundw
            case rel => exact ⟨j + 1, by omega, by go_num, Lib.hid ⟨HNX.out.gr (Ch.refl _ _).drew, HCX.out.drew⟩⟩
            case measure => simp [intOf]; omega
        · obtain rfl : j = N := by omega
          have hpf := HFIN.out wr HJ.out.1 HJ.out.2
          rw [HEE.out] at hpf
          have HP := Lib.hid hpf
          clear hpf
          go_wp2
          go_ret
          exact HP.out
#print axioms rot_any
end Go.Proofs.Ytjibfoplihaabaa
