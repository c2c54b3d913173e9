/-
  (*disk.Disk).drop, lose, blank, faults, walked.
-/
import Derived.Test.YtkbhpkpacojpcaaDskS
namespace Go.Proofs.Ytkbhpkpacojpcaa
open Go.RowKit
set_option linter.unusedVariables false

structure Fa where
  kind : Int
  pl : Int
  off : Int
  n : Int
  to : Int
  k0 : Nat
  k1 : Nat
  k2 : Nat
  k3 : Nat
def faC (f : Fa) : Array Value := #[.int .i64 f.kind, .int .i64 f.pl, .int .i64 f.off, .int .i64 f.n, .int .i64 f.to, .int .u8 (f.k0 : Int), .int .u8 (f.k1 : Int), .int .u8 (f.k2 : Int), .int .u8 (f.k3 : Int)]
def I64 (x : Int) : Prop := -9223372036854775808 ≤ x ∧ x ≤ 9223372036854775807
structure FaOk (f : Fa) : Prop where
  kind : I64 f.kind
  pl : I64 f.pl
  off : I64 f.off
  n : I64 f.n
  to : I64 f.to
  k0 : f.k0 < 256
  k1 : f.k1 < 256
  k2 : f.k2 < 256
  k3 : f.k3 < 256
structure FaR (w w1 : World) (H : Nat) (f : Fa) : Prop where
  al : w.alloc (.cells (faC f) 34) = w1
  sz : w.heap.size = H
  cx : w1.heap[H]? = some (.cells (faC f) 34 (0, 0))
  ch : Ch (fun _ => False) w w1
theorem faR (w : World) (f : Fa) : ∃ w1 H, FaR w w1 H f := ⟨_, _, rfl, rfl, heap_alloc_new w _, (Ch.refl _ w).alloc _ _⟩
theorem FaR.at {w w1 : World} {H : Nat} {f : Fa} (h : FaR w w1 H f) (i : Nat) : w1.cell? ⟨H, i, none⟩ = (faC f)[i]? := blk_cell h.cx

def dropE (f : Fa) : Int := if f.n < 1 ∨ 1000 < f.n then 1 else 0
def dropD (d : Dev) (f : Fa) : Dev := if f.n < 1 ∨ 1000 < f.n then d else { d with drops := up d.drops f.pl.toNat (d.drops f.pl.toNat + f.n.toNat) }
set_option maxHeartbeats 800000 in
set_option maxRecDepth 100000 in
theorem drop_any (base : Nat) (p : Ph) (d : Dev) (f : Fa) (w : World) (h : DevIs base w p d) (hf : FaOk f) (hp : 0 ≤ f.pl ∧ f.pl < d.n) (hdr : ∀ a, d.drops a ≤ 1152921504606846976) :
    Calls Try.prog 50 #[.pointer (some ⟨p.B, 0, none⟩), .agg (faC f)] w (DPost base p d (dropD d f) (.int .i64 (dropE f)) w) := by
  obtain ⟨w1, H, hR⟩ := faR w f
  obtain ⟨k, hk⟩ : ∃ k : Nat, f.pl = (k : Int) := ⟨f.pl.toNat, by omega⟩
  have hkn : k < d.n := by omega
  have h1 : DevIs base w1 p d := h.gr hR.ch
  have x1 : w1.cell? ⟨H, 1, none⟩ = some (.int .i64 (k : Int)) := by rw [← hk]; exact hR.at 1
  have x3 : w1.cell? ⟨H, 3, none⟩ = some (.int .i64 f.n) := hR.at 3
  have c0 : w1.cell? ⟨p.B, 0, none⟩ = some (.slice (some ⟨p.G, 0, none⟩) d.n p.c) := h1.cellB 0
  have cd : w1.cell? ⟨p.G, k * 259 + 257, none⟩ = some (.int .i64 (d.drops k : Int)) := h1.cellG hkn (by omega : 257 < 259)
  have fd := h1.frG (k * 259 + 257)
  have i1 : (0 : Int) ≤ (k : Int) := Int.natCast_nonneg _
  have i2 : (k : Int) < (d.n : Int) := by omega
  have HR := Lib.hid hR
  have hdk := hdr k
  have hn := hf.n
  unfold I64 at hn
  by_cases hq : f.n < 1 ∨ 1000 < f.n
  · have hS : dropE f = 1 ∧ dropD d f = d := by unfold dropE dropD; rw [if_pos hq, if_pos hq]; exact ⟨rfl, rfl⟩
    rw [hS.1, hS.2]
    have HP := Lib.hid (DPost.turned (base := base) (r := .int .i64 1) h1 rfl (hR.ch.mono fun _ _ f => f.elim) (w := w))
    obtain ⟨B, G, V, m, cG⟩ := p
    clear h h1 hR hk hS hf hp hdr
    by_cases hq1 : f.n < 1
    · clear hq
      go_enter Try.func50, Try.ntmps50
      go_wp2_with ((with_reducible refine wpList_same ?_); refine wpList_boxing _ w1 rfl 34 (.tmp 1) rfl (faC f) H rfl (by exact HR.out.sz) (by exact HR.out.al) ?_)
      go_ret
      exact HP.out
    · have hq2 : 1000 < f.n := by omega
      clear hq
      go_enter Try.func50, Try.ntmps50
      go_wp2_with ((with_reducible refine wpList_same ?_); refine wpList_boxing _ w1 rfl 34 (.tmp 1) rfl (faC f) H rfl (by exact HR.out.sz) (by exact HR.out.al) ?_)
      go_ret
      exact HP.out
  · have hS : dropE f = 0 ∧ dropD d f = { d with drops := up d.drops k (d.drops k + f.n.toNat) } := by unfold dropE dropD; rw [if_neg hq, if_neg hq, hk, Int.toNat_natCast]; exact ⟨rfl, rfl⟩
    rw [hS.1, hS.2]
    have hx : ((d.drops k + f.n.toNat : Nat) : Int) = (d.drops k : Int) + f.n := by omega
    have HD : Hid (∀ n, DPost base p d { d with drops := up d.drops k (d.drops k + f.n.toNat) } (.int .i64 0) w (.returned (.int .i64 0)) ((w1.drewN n).setCell ⟨p.G, k * 259 + 257, none⟩ (.int .i64 ((d.drops k : Int) + f.n)))) := fun n => by
      rw [← hx]
      exact DPost.turned ((h1.gr ((Ch.refl _ w1).drewN n)).setDrops hkn _) rfl (((hR.ch.drewN n).mono fun _ _ f => f.elim).trans (chGF (chG _ p _ _)))
    have HD1 := Lib.hid (HD.out 1)
    obtain ⟨B, G, V, m, cG⟩ := p
    clear h h1 hR hk hS hf hp hdr hx HD
    have hq1 : ¬ f.n < 1 := by omega
    have hq2 : ¬ 1000 < f.n := by omega
    clear hq
    go_enter Try.func50, Try.ntmps50
    go_wp2_with ((with_reducible refine wpList_same ?_); refine wpList_boxing _ w1 rfl 34 (.tmp 1) rfl (faC f) H rfl (by exact HR.out.sz) (by exact HR.out.al) ?_)
    go_region
    all_goals (go_wp2; go_ret; exact HD1.out)
#print axioms drop_any
def loseD (d : Dev) (k : Nat) : Dev := { settleD d k with lost := up (settleD d k).lost k true }
set_option maxHeartbeats 800000 in
set_option maxRecDepth 100000 in
theorem lose_any (base : Nat) (p : Ph) (d : Dev) (f : Fa) (w : World) (h : DevIs base w p d) (hW : d.W.length ≤ 1048576) (hp : 0 ≤ f.pl ∧ f.pl < d.n) :
    Calls Try.prog 49 #[.pointer (some ⟨p.B, 0, none⟩), .agg (faC f)] w (DPost base p d (loseD d f.pl.toNat) (.int .i64 0) w) := by
  obtain ⟨w1, H, hR⟩ := faR w f
  obtain ⟨k, hk⟩ : ∃ k : Nat, f.pl = (k : Int) := ⟨f.pl.toNat, by omega⟩
  have hkn : k < d.n := by omega
  have h1 : DevIs base w1 p d := h.gr hR.ch
  have x1 : w1.cell? ⟨H, 1, none⟩ = some (.int .i64 (k : Int)) := by rw [← hk]; exact hR.at 1
  rw [show f.pl.toNat = k by omega]
  have HT := Lib.hid (settle_any base p d k w1 h1 hW)
  have i1 : (0 : Int) ≤ (k : Int) := Int.natCast_nonneg _
  have HR := Lib.hid hR
  have HX := Lib.hid (show ¬ Foot p d H from fun q => by have := (h.foot q).2; have := hR.sz; omega)
  have HK := Lib.hid hkn
  clear h h1 hp hW
  obtain ⟨B, G, V, m, cG⟩ := p
  go_enter Try.func49, Try.ntmps49
  go_wp2_with (first
    | ((with_reducible refine wpList_same ?_); refine wpList_boxing _ w1 rfl 34 (.tmp 1) rfl (faC f) H rfl (by exact HR.out.sz) (by exact HR.out.al) ?_)
    | (go_at_call 52; refine HT.out.mono ?_; rintro e w2 ⟨rfl, p2, hp2, h2, hf2, hc2⟩))
  have hn2 : (settleD d k).n = d.n := finAll_n _ _
  have x2 : w2.cell? ⟨H, 1, none⟩ = some (.int .i64 (k : Int)) := hc2.cell x1 HX.out
  have c0 : w2.cell? ⟨B, 0, none⟩ = some (.slice (some ⟨p2.G, 0, none⟩) (settleD d k).n p2.c) := by have := h2.cellB 0; rw [hp2] at this; exact this
  rw [hn2] at c0
  have cl : w2.cell? ⟨p2.G, k * 259 + 256, none⟩ = some (.bool ((settleD d k).lost k)) := h2.cellG (by rw [hn2]; exact HK.out) (by omega : 256 < 259)
  have fl := h2.frG (k * 259 + 256)
  have i2 : (k : Int) < (d.n : Int) := by have := HK.out; omega
  have HD1 := Lib.hid (show DPost base ⟨B, G, V, m, cG⟩ d (loseD d k) (.int .i64 0) w (.returned (.int .i64 0)) ((w2.drewN 1).setCell ⟨p2.G, k * 259 + 256, none⟩ (.bool true)) from
    ⟨rfl, p2, hp2, (h2.gr ((Ch.refl _ w2).drewN 1)).setLost (by rw [hn2]; exact HK.out) true, fun i hi => by
      rcases hf2 i hi with q | q
      · exact Or.inl q
      · exact Or.inr (Nat.le_trans HR.out.ch.size q), by
      have k1 : Ch (Foot ⟨B, G, V, m, cG⟩ d) w w2 := (HR.out.ch.mono fun _ _ f => f.elim).trans hc2
      have k2 : Ch (Foot ⟨B, G, V, m, cG⟩ d) w (w2.drewN 1) := k1.drewN 1
      refine k2.setCell (p := ⟨p2.G, k * 259 + 256, none⟩) ?_ _
      rcases hf2 p2.G (Or.inr (Or.inl rfl)) with q | q
      · exact Or.inl q
      · exact Or.inr (Nat.le_trans HR.out.ch.size q)⟩)
  obtain ⟨G2, hG2⟩ : ∃ G2, G2 = p2.G := ⟨_, rfl⟩
  rw [← hG2] at c0 cl fl HD1
  clear h2 hf2 hc2 hp2 hR x1 hn2 hG2
  go_region
  all_goals (go_wp2; go_ret; exact HD1.out)
#print axioms lose_any
end Go.Proofs.Ytkbhpkpacojpcaa
