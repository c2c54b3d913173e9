/-
  (*disk.Disk).finish, walked.
-/
import Derived.Test.YtjibfoplihaabaaMg5
namespace Go.Proofs.Ytjibfoplihaabaa
open Go.RowKit
set_option linter.unusedVariables false
set_option maxRecDepth 100000

theorem info_arr (z : Nat → Nat) : (Try.prog.info? 85).map (·.size) = some (bytesL 256 z).length := by rw [bytesL_len]; kernel_rfl
theorem under_arr : Try.prog.underlying 85 = some (.array 256 /-t-/5) := by kernel_rfl
theorem info_wt (x : Wt) : (Try.prog.info? 87).map (·.size) = some (wtC x).length := by rw [wtC_len]; kernel_rfl
theorem under_wt : ∃ d, Try.prog.underlying 87 = some d ∧ TypeDesc.isRow d = true := ⟨_, Try.underlying87, rfl⟩
def finD (d : Dev) (x : Wt) : Dev := { d with has := up d.has x.pl x.z, lost := up d.lost x.pl false }
theorem alloc_cell (w : World) (c : Array Value) (t : TypeId) (i : Nat) : (w.alloc (.cells c t)).cell? ⟨w.heap.size, i, none⟩ = c[i]? := blk_cell (heap_alloc_new w _)
theorem arr_there {w : World} {b o n : Nat} {c : Array Value} {t : TypeId} (h : w.heap[b]? = some (.cells c t (0, 0))) (hn : o + n ≤ c.size) : w.there b o n := fun j hj => by
  rw [blk_cell h]
  exact ⟨by simp; omega, blk_frozen h⟩
theorem setCells_ch (S : Nat → Prop) (b : Nat) (hb : S b) : ∀ (vs : List Value) (o : Nat) (w : World), Ch S w (w.setCells b o vs)
  | [], _, w => Ch.refl _ w
  | v :: r, o, w => ((Ch.refl S w).setCell (p := ⟨b, o, none⟩) (Or.inl hb) v).trans (setCells_ch S b hb r (o + 1) _)
theorem DevIs.finish {base : Nat} {w : World} {p : Ph} {d : Dev} (h : DevIs base w p d) (x : Wt) (hx : x.pl < d.n) (hz : Bytes 256 x.z) : DevIs base ((w.setCells p.G (x.pl * 259) (bytesL 256 x.z)).setCell ⟨p.G, x.pl * 259 + 256, none⟩ (.bool false)) p (finD d x) := by
  have hk : Ch (fun j => j = p.B ∨ j = p.G) w ((w.setCells p.G (x.pl * 259) (bytesL 256 x.z)).setCell ⟨p.G, x.pl * 259 + 256, none⟩ (.bool false)) := (setCells_ch _ p.G (Or.inr rfl) _ _ w).setCell (p := ⟨p.G, x.pl * 259 + 256, none⟩) (Or.inl (Or.inr rfl)) _
  have hk2 : Ch (fun j => j = p.G) w ((w.setCells p.G (x.pl * 259) (bytesL 256 x.z)).setCell ⟨p.G, x.pl * 259 + 256, none⟩ (.bool false)) := Ch.setCell (S := fun j => j = p.G) (setCells_ch (fun j => j = p.G) p.G rfl _ _ w) (p := ⟨p.G, x.pl * 259 + 256, none⟩) (Or.inl rfl) _
  refine h.turn (d' := finD d x) hk ((hk2.block _ (blk_lt h.blk) h.BG).trans h.blk) ?_ rfl rfl rfl ?_ h.lf
  · refine ((secsIs_setCells (bytesL 256 x.z) (x.pl * 259) w _ h.sec).set (x.pl * 259 + 256) (.bool false)).congr fun i hi => ?_
    have hlt := Nat.mod_lt i (show 0 < 259 by omega)
    have hdm := Nat.div_add_mod i 259
    rw [bytesL_len]
    by_cases q : i / 259 = x.pl
    · by_cases q1 : i % 259 < 256
      · rw [if_neg (by omega), if_pos (by omega), show i - x.pl * 259 = i % 259 by omega, bytesL_get q1]
        unfold secV
        rw [if_pos q1, q]
        show _ = Value.int .u8 (up d.has x.pl x.z x.pl (i % 259) : Int)
        rw [up_same]
        rfl
      · by_cases q2 : i % 259 = 256
        · rw [if_pos (by omega)]
          unfold secV
          rw [if_neg q1, if_pos q2, q]
          show _ = Value.bool (up d.lost x.pl false x.pl)
          rw [up_same]
        · rw [if_neg (by omega), if_neg (by omega)]
          unfold secV
          rw [if_neg q1, if_neg q2, if_neg q1, if_neg q2]
          rfl
    · rw [if_neg (by omega), if_neg (by omega)]
      unfold secV
      show _ = if i % 259 < 256 then Value.int .u8 (up d.has x.pl x.z (i / 259) (i % 259) : Int) else if i % 259 = 256 then .bool (up d.lost x.pl false (i / 259)) else _
      rw [up_other _ _ q, up_other _ _ q]
      rfl
  · intro a c ha hc
    show up d.has x.pl x.z a c < 256
    by_cases q : a = x.pl
    · rw [q, up_same]; exact hz c hc
    · rw [up_other _ _ q]; exact h.byt a c ha hc
#print axioms DevIs.finish
set_option maxHeartbeats 800000 in
set_option maxRecDepth 100000 in
theorem finish_any (base : Nat) (p : Ph) (d : Dev) (x : Wt) (w : World) (h : DevIs base w p d) (hx : x.pl < d.n) (hz : Bytes 256 x.z) :
    Calls Try.prog 35 #[.pointer (some ⟨p.B, 0, none⟩), .agg (wtC x).toArray] w fun e w' => e = .returned (.tuple #[]) ∧ DevIs base w' p (finD d x) ∧ Ch (Foot p d) w w' := by
  obtain ⟨w1, hw1⟩ : ∃ w1, w1 = w.alloc (.cells (wtC x).toArray 87) := ⟨_, rfl⟩
  obtain ⟨H, hH⟩ : ∃ H, H = w.heap.size := ⟨_, rfl⟩
  have HC := Lib.hid (show Ch (Foot p d) w w1 by rw [hw1]; exact (Ch.refl _ w).alloc _ _)
  have h1 : DevIs base w1 p d := by rw [hw1]; exact h.gr ((Ch.refl _ w).alloc _ _)
  have c0 : w1.cell? ⟨p.B, 0, none⟩ = some (.slice (some ⟨p.G, 0, none⟩) d.n p.c) := h1.cellB 0
  have x0 : w1.cell? ⟨H, 0, none⟩ = some (.int .i64 (x.pl : Int)) := by rw [hw1, hH, alloc_cell]; simp [wtC_zero]
  have hrg : w1.rangeAt H 1 (bytesL 256 x.z) := fun j v hv => by
    have hj : j < 256 := by
      by_cases q : j < 256
      · exact q
      · rw [bytesL_none q] at hv; cases hv
    rw [hw1, hH, alloc_cell, Nat.add_comm, List.getElem?_toArray, wtC_succ x hj, ← hv, bytesL_get hj]
  have HL : Hid (∀ n, (loadVar 85 ⟨H, 1, none⟩).run Try.prog (w1.drewN n) = .ok (.agg (bytesL 256 x.z).toArray) (w1.drewN n)) := fun n => run_loadVar_mid (w1.drewN n) H 1 _ _ _ hrg under_arr rfl (info_arr x.z)
  obtain ⟨cs, hcs, hcz, _⟩ := h1.sec
  have hi259 : x.pl * 259 + 259 ≤ d.n * 259 := by have := Nat.mul_le_mul_right 259 (show x.pl + 1 ≤ d.n from hx); omega
  have HS : Hid (∀ n, (storeVar 85 ⟨p.G, x.pl * 259, none⟩ (.agg (bytesL 256 x.z).toArray)).run Try.prog (w1.drewN n) = .ok () ((w1.drewN n).setCells p.G (x.pl * 259) (bytesL 256 x.z))) := fun n => by
    have := run_storeVar_mid (P := Try.prog) (w1.drewN n) p.G (x.pl * 259) 85 (bytesL 256 x.z).toArray (arr_there (w := w1.drewN n) hcs (by simp [bytesL_len]; omega)) (by rw [List.size_toArray]; exact info_arr x.z) (all_oneCell_toArray bytesL_one)
    simpa using this
  have HD : Hid (∀ n, DevIs base (((w1.drewN n).setCells p.G (x.pl * 259) (bytesL 256 x.z)).setCell ⟨p.G, x.pl * 259 + 256, none⟩ (.bool false)) p (finD d x)) := fun n => (h1.gr ((Ch.refl _ w1).drewN n)).finish x hx hz
  have HC2 : Hid (∀ n, Ch (Foot p d) w (((w1.drewN n).setCells p.G (x.pl * 259) (bytesL 256 x.z)).setCell ⟨p.G, x.pl * 259 + 256, none⟩ (.bool false))) := fun n =>
    ((HC.out.drewN n).trans (setCells_ch _ p.G (Or.inr (Or.inl rfl)) _ _ _)).setCell (p := ⟨p.G, x.pl * 259 + 256, none⟩) (Or.inl (Or.inr (Or.inl rfl))) _
  have HF : Hid (∀ n, ((w1.drewN n).setCells p.G (x.pl * 259) (bytesL 256 x.z)).cell? ⟨p.G, x.pl * 259 + 256, none⟩ = some (.bool (d.lost x.pl)) ∧ ((w1.drewN n).setCells p.G (x.pl * 259) (bytesL 256 x.z)).frozen? ⟨p.G, x.pl * 259 + 256, none⟩ = false) := fun n => by
    rw [World.cell?_setCells_out _ _ _ _ _ (fun _ _ => Or.inr (by rw [bytesL_len]; exact Nat.le_refl _)), World.frozen?_setCells]
    exact ⟨h1.cellG hx (by omega : 256 < 259), h1.frG _⟩
  have i1 : (0 : Int) ≤ (x.pl : Int) := Int.natCast_nonneg _
  have i2 : (x.pl : Int) < (d.n : Int) := by omega
  have HW := Lib.hid hw1.symm
  have HN := Lib.hid hH.symm
  obtain ⟨B, G, V, m, cG⟩ := p
  clear h h1 hcs hcz hi259 hrg hw1 hH
  go_enter Try.func35, Try.ntmps35
  go_wp2_with ((with_reducible refine wpList_same ?_); refine wpList_boxing w w1 rfl _ (.tmp 1) rfl (wtC x).toArray H rfl HN.out HW.out ?_)
  go_quiet (fail)
  have c3 := (HF.out nq).1
  have f3 := (HF.out nq).2
  have HSn := Lib.hid (HS.out nq)
  have HDn := Lib.hid (HD.out nq)
  have HCn := Lib.hid (HC2.out nq)
  obtain ⟨w3, hw3⟩ : ∃ w3, w3 = (w1.drewN nq).setCells G (x.pl * 259) (bytesL 256 x.z) := ⟨_, rfl⟩
  change Hid (_ = Result.ok () ((w1.drewN nq).setCells G (x.pl * 259) (bytesL 256 x.z))) at HSn
  change Hid (DevIs base (((w1.drewN nq).setCells G (x.pl * 259) (bytesL 256 x.z)).setCell _ _) _ _) at HDn
  change Hid (Ch _ w (((w1.drewN nq).setCells G (x.pl * 259) (bytesL 256 x.z)).setCell _ _)) at HCn
  change ((w1.drewN nq).setCells G (x.pl * 259) (bytesL 256 x.z)).cell? ⟨G, x.pl * 259 + 256, none⟩ = _ at c3
  change ((w1.drewN nq).setCells G (x.pl * 259) (bytesL 256 x.z)).frozen? ⟨G, x.pl * 259 + 256, none⟩ = _ at f3
  rw [← hw3] at HSn HDn HCn c3 f3
  clear hw3 HS HD HC2 HF
  go_wp2_with ((with_reducible refine wpList_same ?_); first | refine wpList_loading (w1.drewN nq) rfl _ (.tmp 14) rfl (.agg (bytesL 256 x.z).toArray) ⟨H, 1, none⟩ rfl (HL.out nq) ?_ | refine wpList_storing (w1.drewN nq) w3 rfl _ (.tmp 17) (.tmp 15) rfl (.agg (bytesL 256 x.z).toArray) ⟨G, x.pl * 259, none⟩ rfl rfl HSn.out ?_)
  go_end0
  exact ⟨rfl, HDn.out, HCn.out⟩
#print axioms finish_any
end Go.Proofs.Ytjibfoplihaabaa
