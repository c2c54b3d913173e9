/-
  ring.load and Load, walked: what is read of both mirrors.
-/
import Derived.Test.YteleknojohnlbaaGreatMc32
import Derived.Test.YteleknojohnlbaaGreatMc33
import Derived.Test.YteleknojohnlbaaGreatMc9
namespace Go.Proofs.YteleknojohnlbaaGreat
open Go.RowKit
set_option linter.unusedVariables false
set_option maxRecDepth 100000
set_option linter.unusedSimpArgs false
def ldD (g : Ge) (mir : Int) (d : Dev) : Nat → Dev
  | 0 => d
  | k + 1 => readD (ldD g mir d k) (addrR g mir (k : Int))
def ldN (g : Ge) (mir : Int) (d : Dev) (k : Nat) : Nat := readL (ldD g mir d k) (addrR g mir (k : Int))
def ldZ (g : Ge) (mir : Int) (d : Dev) (k : Nat) : Nat → Nat := readZ (ldD g mir d k) (addrR g mir (k : Int))
section
variable (g : Ge) (mir : Int) (d : Dev)
theorem ldD_n : ∀ k, (ldD g mir d k).n = d.n
  | 0 => rfl
  | k + 1 => by
    have ih := ldD_n k
    show (readD (ldD g mir d k) _).n = d.n
    unfold readD; split <;> exact ih
theorem ldD_W : ∀ k, (ldD g mir d k).W = d.W
  | 0 => rfl
  | k + 1 => by
    have ih := ldD_W k
    show (readD (ldD g mir d k) _).W = d.W
    unfold readD; split <;> exact ih
theorem ldD_ops : ∀ k, (ldD g mir d k).ops ≤ d.ops + k
  | 0 => Nat.le_refl _
  | k + 1 => by
    have ih := ldD_ops k
    show (readD (ldD g mir d k) _).ops ≤ _
    unfold readD
    split
    · show (ldD g mir d k).ops + 1 ≤ _; omega
    · omega
end
structure LdRow (w wr : World) (B W : Nat) (N : Nat → Nat) (Z : Nat → Nat → Nat) : Prop where
  row : ∃ s, wr.rowIs B /-t-/24 W s ∧ ∀ c, c < W → RowN w wr (s c) (N c) (Z c)
  lo : w.heap.size ≤ B
theorem LdRow.ch {S : Nat → Prop} {w wr w' : World} {B W : Nat} {N : Nat → Nat} {Z : Nat → Nat → Nat} (h : LdRow w wr B W N Z) (k : Ch S wr w') (hS : ∀ i, S i → i < w.heap.size) : LdRow w w' B W N Z := by
  obtain ⟨s, h1, h2⟩ := h.row
  exact ⟨⟨s, k.rowIs h1 fun q => by have := hS B q; have := h.lo; omega, fun c hc => (h2 c hc).ch k fun i hi hb => by have := hS i hi; omega⟩, h.lo⟩
theorem LdRow.read {w wr : World} {B W : Nat} {N : Nat → Nat} {Z : Nat → Nat → Nat} (h : LdRow w wr B W N Z) (hW : W ≤ 1000000) : BsV wr (some ⟨B, 0, none⟩) W W N Z := by
  obtain ⟨s, h1, h2⟩ := h.row
  refine ⟨by omega, Nat.le_refl _, fun _ => ⟨B, 0, rfl, fun c hc => ?_⟩⟩
  obtain ⟨A', C', e, _⟩ := id (h2 c hc)
  refine ⟨A', C', ?_, ?_⟩
  · rw [Nat.zero_add, ← e]; exact h1.cell hc
  · rw [← e]; exact (h2 c hc).row
theorem LdRow.set {w wr : World} {B W k : Nat} {N : Nat → Nat} {Z : Nat → Nat → Nat} {u : Value} {n : Nat} {z : Nat → Nat} (h : LdRow w wr B W N Z) (hu : RowN w wr u n z) (hk : k < W) : LdRow w (wr.setCell ⟨B, k, none⟩ u) B W (up N k n) (up Z k z) := by
  obtain ⟨s, h1, h2⟩ := h.row
  have hB : ∃ c, wr.heap[B]? = some (.cells c /-t-/24 (0, 0)) := by
    obtain ⟨c, hc, _⟩ := h1
    exact ⟨c, hc⟩
  have off : ∀ i, i = B → w.heap.size ≤ i → ¬ ∃ c, wr.heap[i]? = some (.cells c /-t-/5 (0, 0)) := fun i e _ ⟨c, hc⟩ => by
    subst e
    obtain ⟨c2, hc2⟩ := hB
    exact cells_ne hc2 hc (by decide) rfl
  have kk : Ch (fun i => i = B) wr (wr.setCell ⟨B, k, none⟩ u) := (Ch.refl (fun i => i = B) wr).setCell (p := ⟨B, k, none⟩) (Or.inl rfl) _
  refine ⟨⟨up s k u, (h1.set k u).congr fun i _ => rfl, fun c hc => ?_⟩, h.lo⟩
  by_cases q : c = k
  · subst q
    rw [up_same, up_same, up_same]
    exact hu.ch kk off
  · rw [up_other _ _ q, up_other _ _ q, up_other _ _ q]
    exact (h2 c hc).ch kk off
theorem LdRow.congr {w wr : World} {B W : Nat} {N N' : Nat → Nat} {Z Z' : Nat → Nat → Nat} (h : LdRow w wr B W N Z) (e : ∀ c, c < W → N c = N' c ∧ Z c = Z' c) : LdRow w wr B W N' Z' := by
  obtain ⟨s, h1, h2⟩ := h.row
  exact ⟨⟨s, h1, fun c hc => by rw [← (e c hc).1, ← (e c hc).2]; exact h2 c hc⟩, h.lo⟩
def toN (N : Nat → Nat) (k c : Nat) : Nat := if c < k then N c else 0
def toZ (Z : Nat → Nat → Nat) (k c : Nat) : Nat → Nat := if c < k then Z c else fun _ => 0
theorem toN_next (N : Nat → Nat) (k c : Nat) : up (toN N k) k (N k) c = toN N (k + 1) c := by
  unfold toN up
  by_cases q : c = k
  · subst q; rw [if_pos rfl, if_pos (by omega)]
  · rw [if_neg q]
    show (if c < k then _ else _) = _
    by_cases r : c < k
    · rw [if_pos r, if_pos (by omega)]
    · rw [if_neg r, if_neg (by omega)]
theorem toZ_next (Z : Nat → Nat → Nat) (k c : Nat) : up (toZ Z k) k (Z k) c = toZ Z (k + 1) c := by
  unfold toZ up
  by_cases q : c = k
  · subst q; rw [if_pos rfl, if_pos (by omega)]
  · rw [if_neg q]
    show (if c < k then _ else _) = _
    by_cases r : c < k
    · rw [if_pos r, if_pos (by omega)]
    · rw [if_neg r, if_neg (by omega)]
theorem made_bs (n : Nat) (w : World) (hn : n ≤ 1048576) : (Instr.makeSlice /-t-/37 (.int .i64 (n : Int)) (.int .i64 (n : Int))).run Tryz.prog w = .ok (.slice (some ⟨w.heap.size, 0, none⟩) n n) (w.alloc (.cells (madeCells #[.slice none 0 0] n) /-t-/24)) := by
  obtain ⟨i0, hi, hz0, hz1, hz2⟩ := info_parts info_bs
  have := run_make (P := Tryz.prog) w /-t-/37 /-t-/24 i0 (.slice none 0 0) under_bs hi hz0 .i64 .i64 n n (by omega) (by omega) (by rw [hz2]; omega) (by omega)
  rw [hz1, Int.toNat_natCast, Nat.mul_one] at this
  exact this
def LdPost (base : Nat) (p : Ph) (g : Ge) (mir : Int) (d : Dev) (w : World) (e : Ending) (w' : World) : Prop :=
  ∃ B, e = .returned (.slice (some ⟨B, 0, none⟩) g.wal.toNat g.wal.toNat) ∧ LdRow w w' B g.wal.toNat (ldN g mir d) (ldZ g mir d) ∧ DevIs base w' p (ldD g mir d g.wal.toNat) ∧ Ch (Foot p d) w w'
structure LdS (base : Nat) (p : Ph) (g : Ge) (mir : Int) (d : Dev) (W : Nat) (w wb wr : World) (B k : Nat) : Prop where
  dev : DevIs base wr p (ldD g mir d k)
  row : LdRow w wr B W (toN (ldN g mir d) k) (toZ (ldZ g mir d) k)
  ch : Ch (Foot p d) w wr
  ch2 : Ch (fun i => Foot p d i ∨ i = B) wb wr
theorem LdS.next {base : Nat} {p : Ph} {g : Ge} {mir : Int} {d : Dev} {W : Nat} {w wb wr w1 w2 : World} {B k : Nat} {u : Value} (h : LdS base p g mir d W w wb wr B k) (hf : ∀ i, Foot p d i → i < w.heap.size) (hk : k < W) (h1 : Ch (fun _ => False) wr w1) (h2 : DevIs base w2 p (readD (ldD g mir d k) (addrR g mir (k : Int))))
    (hr : w2.ownsRow w1.heap.size /-t-/5 1 u (ldN g mir d k) (bytesL (ldN g mir d k) (ldZ g mir d k))) (hc : Ch (Foot p (ldD g mir d k)) w1 w2) : LdS base p g mir d W w wb (w2.setCell ⟨B, k, none⟩ u) B (k + 1) := by
  have hz : Bytes (ldN g mir d k) (ldZ g mir d k) := read_bytes h.dev _
  have hn : ldN g mir d k ≤ 256 := by unfold ldN readL; split <;> omega
  have hfk : ∀ i, Foot p (ldD g mir d k) i → Foot p d i := fun i hi => (foot_n (ldD_n g mir d k)).1 hi
  have hc' : Ch (Foot p d) wr w2 := (h1.mono fun _ _ f => f.elim).trans (hc.mono fun i _ hi => hfk i hi)
  have hrow := (h.row.ch hc' hf).set (k := k) (RowN.own hr (by omega) hz (Nat.le_trans h.ch.size h1.size)) hk
  refine ⟨h2.ch ((Ch.refl (fun i => i = B) w2).setCell (p := ⟨B, k, none⟩) (Or.inl rfl) _) fun i hi e => ?_, hrow.congr fun c _ => ⟨toN_next _ _ _, toZ_next _ _ _⟩, ?_, (h.ch2.trans (hc'.mono fun i _ q => Or.inl q)).setCell (p := ⟨B, k, none⟩) (Or.inl (Or.inr rfl)) _⟩
  · have := hf i ((foot_n (ldD_n g mir d (k + 1))).1 hi)
    have := h.row.lo
    omega
  · exact (h.ch.trans hc').setCell (p := ⟨B, k, none⟩) (Or.inr h.row.lo) _
set_option maxHeartbeats 3200000 in
theorem rload_any (base : Nat) (p : Ph) (g : Gn) (mir : Int) (d : Dev) (w : World) (h : DevIs base w p d) (hg : g.Ok) (hm : 0 ≤ mir ∧ mir ≤ 1) (ho : d.ops ≤ 1000000) (hW : d.W.length ≤ 1000000) :
    Calls Tryz.prog 64 #[.pointer (some ⟨p.B, 0, none⟩), .agg (geC g.ge), .int .i64 mir] w (LdPost base p g.ge mir d w) := by
  obtain ⟨w1, H, hR⟩ := geR w g.ge
  obtain ⟨x0, x1, x2, x3⟩ := hR.x
  obtain ⟨W, hWe⟩ : ∃ W, W = g.W := ⟨_, rfl⟩
  have e0 : g.ge.wal = (W : Int) := by rw [hWe]; rfl
  have hWn : g.ge.wal.toNat = W := by rw [e0]; exact Int.toNat_natCast W
  have hW2 : W ≤ 512 := by rw [hWe]; exact hg.w2
  rw [e0] at x0
  have hGM := ok_may hg
  obtain ⟨w2, hw2⟩ : ∃ w2, w2 = w1.alloc (.cells (madeCells #[.slice none 0 0] W) /-t-/24) := ⟨_, rfl⟩
  obtain ⟨B, hB⟩ : ∃ B, B = w1.heap.size := ⟨_, rfl⟩
  have hmk := made_bs W w1 (by omega)
  rw [← hw2, ← hB] at hmk
  have hc2 : Ch (fun _ => False) w1 w2 := by rw [hw2]; exact (Ch.refl _ w1).alloc _ _
  have hHB : w.heap.size ≤ H ∧ H < B := ⟨by rw [← hR.sz]; exact Nat.le_refl _, by rw [hB]; exact blk_lt hR.cx⟩
  have HS0 : Hid (LdS base p g.ge mir d W w w2 w2 B 0) := Lib.hid ⟨(h.gr hR.ch).gr hc2, ⟨⟨fun _ => .slice none 0 0, by rw [hw2, hB]; exact World.rowIs_made w1 (.slice none 0 0) W /-t-/24, fun c _ => ⟨none, 0, rfl, Nat.le_refl _, Or.inl rfl⟩⟩, by omega⟩, (hR.ch.trans hc2).mono fun _ _ f => f.elim, Ch.refl _ _⟩
  have HFT := Lib.hid (fun i (hi : Foot p d i) => (h.foot hi).2)
  have HOP := Lib.hid (And.intro ho hW)
  have HX := Lib.hid (hR.x.gr hc2)
  have HSZ := Lib.hid (show w2.heap.size = B + 1 by rw [hw2, hB]; exact Array.size_push _)
  have HR := Lib.hid hR
  have HMK := Lib.hid hmk
  have HWE := Lib.hid e0
  have HWN := Lib.hid hWn
  have HGM := Lib.hid hGM
  have HHB := Lib.hid hHB
  have HW2 := Lib.hid hW2
  have HM := Lib.hid hm
  clear h hR hWe hc2 hHB ho hW x1 x2 x3 hGM hWn e0 hg hm
  go_enter Tryz.func64, Tryz.ntmps64
  go_wp2_with (first
    | ((with_reducible refine wpList_isOp (.box 23 (.tmp 1)) rfl ?_); refine wpList_boxing _ w1 rfl 23 (.tmp 1) rfl (geC g.ge) H rfl (by exact HR.out.sz) (by exact HR.out.al) ?_)
    | fail)
  rw [← hw2, ← hB]
  clear hmk x0 hw2 hB
  go_loopw [8, 14, 15, 16, 17, 18, 19, 20, 21, 22, 23, 24, 25, 26, 27, 28, 29] (fun _ i _ _ _ _ _ _ _ _ _ _ _ _ _ _ _ wr => ∃ k : Nat, k ≤ W ∧ i = .int .i64 k ∧ Hid (LdS base p g.ge mir d W w w2 wr B k)) (fun _ i _ _ _ _ _ _ _ _ _ _ _ _ _ _ _ _ => W - (intOf i).toNat)
  case atStart => exact ⟨0, Nat.zero_le _, rfl, HS0⟩
  case round =>
    obtain ⟨k, hk, rfl, HK⟩ := hrel
    clear HS0
    by_cases hlt : k < W
    · have i1 : (0 : Int) ≤ (k : Int) := Int.natCast_nonneg _
      have i2 : (k : Int) < (W : Int) := by omega
      obtain ⟨x0, x1, x2, x3⟩ := HX.out.off HK.out.ch2 (fun q => q.elim (fun q => by have := HFT.out H q; have := HHB.out; omega) (fun q => by have := HHB.out; omega))
      have HA := Lib.hid (raddr_any g.ge mir (k : Int) wr HGM.out HM.out ⟨by omega, by rw [HWE.out]; omega⟩)
      have HLT := Lib.hid hlt
      clear hlt
      go_wp2_with fail
      refine HA.out.mono ?_
      rintro e w4 ⟨rfl, hc4⟩
      have HC4 := Lib.hid hc4
      have HO := Lib.hid (read_any base p (ldD g.ge mir d k) (addrR g.ge mir (k : Int)) w4 (HK.out.dev.gr hc4) (by have := ldD_ops g.ge mir d k; have := HOP.out.1; have := HLT.out; omega) (by rw [ldD_W]; have := HOP.out.2; omega))
      clear hc4 HA x0 x1 x2 x3
      go_wp2_with fail
      refine HO.out.mono ?_
      rintro e w5 ⟨u, rfl, q1, q2, q3⟩
      obtain ⟨A5, C5, rfl⟩ := own_slice q2
      have HNX := Lib.hid (HK.out.next HFT.out HLT.out HC4.out q1 q2 q3)
      have hf : ∀ i, Foot p (ldD g.ge mir d k) i → i < w.heap.size := fun i hi => HFT.out i ((foot_n (ldD_n g.ge mir d k)).1 hi)
      obtain ⟨s, hs1, hs2⟩ := ((HK.out.row.ch (HC4.out.mono fun _ _ f => f.elim) (S := Foot p (ldD g.ge mir d k)) hf).ch q3 hf).row
      have c1 := hs1.cell (i := k) HLT.out
      have f1 := hs1.frozen k
      have hlt := HLT.out
      obtain ⟨E, hE⟩ : ∃ E, E = readE (ldD g.ge mir d k) (addrR g.ge mir (k : Int)) := ⟨_, rfl⟩
      obtain ⟨M, hM⟩ : ∃ M, M = readL (ldD g.ge mir d k) (addrR g.ge mir (k : Int)) := ⟨_, rfl⟩
      rw [← hE, ← hM]
      rw [← hM] at HNX
      clear q1 q2 q3 hs1 hs2 hE HO hf hM
      go_wp2
      go_roundw
      case rel => exact ⟨k + 1, HLT.out, by go_num, HNX⟩
      case measure => have := HLT.out; simp [intOf]; omega
    · obtain rfl : k = W := by omega
      have HFIN : Hid (LdPost base p g.ge mir d w (.returned (.slice (some ⟨B, 0, none⟩) k k)) wr) := Lib.hid (by
        unfold LdPost
        rw [HWN.out]
        exact ⟨B, rfl, HK.out.row.congr fun c hc => by unfold toN toZ; rw [if_pos hc, if_pos hc]; exact ⟨rfl, rfl⟩, HK.out.dev, HK.out.ch⟩)
      clear hlt hk
      go_wp2
      go_ret
      exact HFIN.out
end Go.Proofs.YteleknojohnlbaaGreat
