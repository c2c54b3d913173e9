/-
  geo.within, shares, firstShare, firstStripeGroup, end, May, Sectors, Room, Groups, walked. What a sector opens to, told by its bytes alone; digits of words; an Out apart from other blocks. (Cut out of sup's texts.). (*code.In).Bytes, walked.
-/
import Derived.Test.YteleknojohnlbaaGreatMk1
import Derived.Test.YteleknojohnlbaaGreatMk15
import Derived.Test.YteleknojohnlbaaGreatMk19
import Derived.Test.YteleknojohnlbaaGreatMk17
namespace Go.Proofs.YteleknojohnlbaaGreat
open Go.RowKit
set_option linter.unusedVariables false
set_option maxRecDepth 100000
set_option maxHeartbeats 400000 in
theorem within_any (n a b : Int) (w : World) : Calls Tryz.prog 69 #[.int .i64 n, .int .i64 a, .int .i64 b] w fun e w' => e = .returned (.bool (inB n a b)) ∧ w = w' := by
  by_cases h1 : a ≤ n
  · by_cases h2 : n ≤ b
    · have HE := Lib.hid (show inB n a b = true from inB_true.2 ⟨h1, h2⟩)
      have t1 : decide (a ≤ n) = true := decide_eq_true h1
      have t2 : decide (n ≤ b) = true := decide_eq_true h2
      clear h1 h2
      go_enter Tryz.func69, Tryz.ntmps69
      go_wp2
      go_ret
      exact ⟨ret_bool HE.out.symm, rfl⟩
    · have HE := Lib.hid (show inB n a b = false from decide_eq_false fun q => h2 q.2)
      have t1 : decide (a ≤ n) = true := decide_eq_true h1
      have t2 : decide (n ≤ b) = false := decide_eq_false h2
      clear h1 h2
      go_enter Tryz.func69, Tryz.ntmps69
      go_wp2
      go_ret
      exact ⟨ret_bool HE.out.symm, rfl⟩
  · have HE := Lib.hid (show inB n a b = false from decide_eq_false fun q => h1 q.1)
    have t1 : decide (a ≤ n) = false := decide_eq_false h1
    clear h1
    go_enter Tryz.func69, Tryz.ntmps69
    go_wp2
    go_ret
    exact ⟨ret_bool HE.out.symm, rfl⟩
theorem GeX.all {w : World} {H : Nat} {g : Ge} (h : GeX w H g) : w.cell? ⟨H, 0, none⟩ = some (.int .i64 g.wal) ∧ w.cell? ⟨H, 1, none⟩ = some (.int .i64 g.st) ∧ w.cell? ⟨H, 2, none⟩ = some (.int .i64 g.k) ∧ w.cell? ⟨H, 3, none⟩ = some (.int .i64 g.m) := ⟨h.x0, h.x1, h.x2, h.x3⟩
theorem wrapI_in {x : Int} (h1 : -9223372036854775808 ≤ x) (h2 : x ≤ 9223372036854775807) : IntKind.i64.wrap x = x := by rw [IntKind.wrap_i64]; omega
section
variable (n : Gn) (h : n.Ok) (w : World)
include h
set_option maxHeartbeats 400000 in
theorem shares_any : Calls Tryz.prog 112 #[.agg (geC n.ge)] w (Ans (.int .i64 (n.q : Int)) w) := by
  obtain ⟨w1, H, hR⟩ := geR w n.ge
  obtain ⟨k, hk⟩ : ∃ k, k = n.K := ⟨_, rfl⟩
  obtain ⟨m, hm⟩ : ∃ m, m = n.M := ⟨_, rfl⟩
  have x2 : w1.cell? ⟨H, 2, none⟩ = some (.int .i64 (k : Int)) := by rw [hk]; exact hR.x.x2
  have x3 : w1.cell? ⟨H, 3, none⟩ = some (.int .i64 (m : Int)) := by rw [hm]; exact hR.x.x3
  have b1 : k ≤ 16 := by rw [hk]; exact h.k2
  have b2 : m ≤ 8 := by rw [hm]; exact h.m2
  have HE := Lib.hid (show (k : Int) + (m : Int) = (n.q : Int) by rw [hk, hm]; unfold Gn.q; omega)
  have HR := Lib.hid hR
  clear hR hk hm h
  go_enter Tryz.func112, Tryz.ntmps112
  go_wp2_with ((with_reducible refine wpList_isOp (.box 23 (.tmp 0)) rfl ?_); refine wpList_boxing _ w1 rfl 23 (.tmp 0) rfl (geC n.ge) H rfl (by exact HR.out.sz) (by exact HR.out.al) ?_)
  go_ret
  exact ⟨ret_int HE.out, HR.out.ch⟩
set_option maxHeartbeats 400000 in
theorem firstShare_any : Calls Tryz.prog 111 #[.agg (geC n.ge)] w (Ans (.int .i64 (n.fs : Int)) w) := by
  obtain ⟨w1, H, hR⟩ := geR w n.ge
  obtain ⟨k, hk⟩ : ∃ k, k = n.W := ⟨_, rfl⟩
  have x0 : w1.cell? ⟨H, 0, none⟩ = some (.int .i64 (k : Int)) := by rw [hk]; exact hR.x.x0
  have b1 : k ≤ 512 := by rw [hk]; exact h.w2
  have HE := Lib.hid (show 4 + 2 * (k : Int) = (n.fs : Int) by rw [hk]; unfold Gn.fs; omega)
  have HR := Lib.hid hR
  clear hR hk h
  go_enter Tryz.func111, Tryz.ntmps111
  go_wp2_with ((with_reducible refine wpList_isOp (.box 23 (.tmp 0)) rfl ?_); refine wpList_boxing _ w1 rfl 23 (.tmp 0) rfl (geC n.ge) H rfl (by exact HR.out.sz) (by exact HR.out.al) ?_)
  go_ret
  exact ⟨ret_int HE.out, HR.out.ch⟩
theorem wrap_stripes : IntKind.i64.wrap (IntKind.i64.wrap (2 * n.ge.st) * (n.q : Int)) = ((2 * (n.S * n.q) : Nat) : Int) := by
  have b1 := h.s2
  have b2 := h.t2
  have e1 : n.ge.st = (n.S : Int) := rfl
  rw [e1, wrapI_in (x := 2 * (n.S : Int)) (by omega) (by omega)]
  have e2 : 2 * (n.S : Int) * (n.q : Int) = ((2 * (n.S * n.q) : Nat) : Int) := by rw [Int.mul_assoc]; omega
  rw [e2]
  exact wrapI_in (by omega) (by omega)
set_option maxHeartbeats 1600000 in
theorem end_any : Calls Tryz.prog 70 #[.agg (geC n.ge)] w (Ans (.int .i64 (n.tot : Int)) w) := by
  obtain ⟨w1, H, hR⟩ := geR w n.ge
  obtain ⟨x0, x1, x2, x3⟩ := hR.x
  have HR := Lib.hid hR
  have HX := Lib.hid hR.x
  have HK := Lib.hid h
  have HE := Lib.hid (show IntKind.i64.wrap ((n.fs : Int) + IntKind.i64.wrap (IntKind.i64.wrap (2 * n.ge.st) * (n.q : Int))) = (n.tot : Int) by
    have b1 := h.fs2
    have b2 := h.t2
    rw [wrap_stripes n h, wrapI_in (by omega) (by omega)]
    unfold Gn.tot
    omega)
  clear hR h
  go_enter Tryz.func70, Tryz.ntmps70
  go_wp2_with ((with_reducible refine wpList_isOp (.box 23 (.tmp 0)) rfl ?_); refine wpList_boxing _ w1 rfl 23 (.tmp 0) rfl (geC n.ge) H rfl (by exact HR.out.sz) (by exact HR.out.al) ?_)
  go_region_held3 (fun w' => w'.cell? ⟨H, 0, none⟩ = some (.int .i64 (n.ge).wal) ∧ w'.cell? ⟨H, 1, none⟩ = some (.int .i64 (n.ge).st) ∧ w'.cell? ⟨H, 2, none⟩ = some (.int .i64 (n.ge).k) ∧ w'.cell? ⟨H, 3, none⟩ = some (.int .i64 (n.ge).m)) (first | go_keep | exact ka | exact kb)
    (first
      | (go_at_call 111; refine (firstShare_any n HK.out _).mono ?_; rintro e w2 ⟨rfl, hc2⟩; have hx2 := HX.out.drew.gr hc2; have ka := hx2.all)
      | (go_at_call 112; refine (shares_any n HK.out _).mono ?_; rintro e w3 ⟨rfl, hc3⟩; have hx3 := hx2.gr hc3; have kb := hx3.all))
  go_wp2
  go_ret
  exact ⟨ret_int HE.out, (HR.out.ch.drew.trans hc2).trans hc3⟩
end
theorem mayG_eq (g : Ge) : mayG g = (inB g.wal 8 512 && (inB g.st 1 32 && (inB g.k 1 16 && inB g.m 1 8))) := rfl
set_option maxHeartbeats 1600000 in
theorem gmay_any (g : Ge) (w : World) : Calls Tryz.prog 39 #[.agg (geC g)] w (Ans (.bool (mayG g)) w) := by
  obtain ⟨w1, H, hR⟩ := geR w g
  obtain ⟨x0, x1, x2, x3⟩ := hR.x
  have HR := Lib.hid hR
  have HX := Lib.hid hR.x
  clear hR
  cases t1 : inB g.wal 8 512
  · have HE := Lib.hid (show mayG g = false by rw [mayG_eq, t1]; rfl)
    go_enter Tryz.func39, Tryz.ntmps39
    go_wp2_with (first | ((with_reducible refine wpList_isOp (.box 23 (.tmp 0)) rfl ?_); refine wpList_boxing _ w1 rfl 23 (.tmp 0) rfl (geC g) H rfl (by exact HR.out.sz) (by exact HR.out.al) ?_) | (go_at_call 69; refine (within_any _ _ _ _).mono ?_; rintro e w' ⟨rfl, rfl⟩))
    go_ret
    exact ⟨ret_bool HE.out.symm, HR.out.ch⟩
  cases t2 : inB g.st 1 32
  · have HE := Lib.hid (show mayG g = false by rw [mayG_eq, t1, t2]; rfl)
    go_enter Tryz.func39, Tryz.ntmps39
    go_wp2_with (first | ((with_reducible refine wpList_isOp (.box 23 (.tmp 0)) rfl ?_); refine wpList_boxing _ w1 rfl 23 (.tmp 0) rfl (geC g) H rfl (by exact HR.out.sz) (by exact HR.out.al) ?_) | (go_at_call 69; refine (within_any _ _ _ _).mono ?_; rintro e w' ⟨rfl, rfl⟩))
    go_ret
    exact ⟨ret_bool HE.out.symm, HR.out.ch⟩
  cases t3 : inB g.k 1 16
  · have HE := Lib.hid (show mayG g = false by rw [mayG_eq, t1, t2, t3]; rfl)
    go_enter Tryz.func39, Tryz.ntmps39
    go_wp2_with (first | ((with_reducible refine wpList_isOp (.box 23 (.tmp 0)) rfl ?_); refine wpList_boxing _ w1 rfl 23 (.tmp 0) rfl (geC g) H rfl (by exact HR.out.sz) (by exact HR.out.al) ?_) | (go_at_call 69; refine (within_any _ _ _ _).mono ?_; rintro e w' ⟨rfl, rfl⟩))
    go_ret
    exact ⟨ret_bool HE.out.symm, HR.out.ch⟩
  cases t4 : inB g.m 1 8
  · have HE := Lib.hid (show mayG g = false by rw [mayG_eq, t1, t2, t3, t4]; rfl)
    go_enter Tryz.func39, Tryz.ntmps39
    go_wp2_with (first | ((with_reducible refine wpList_isOp (.box 23 (.tmp 0)) rfl ?_); refine wpList_boxing _ w1 rfl 23 (.tmp 0) rfl (geC g) H rfl (by exact HR.out.sz) (by exact HR.out.al) ?_) | (go_at_call 69; refine (within_any _ _ _ _).mono ?_; rintro e w' ⟨rfl, rfl⟩))
    go_ret
    exact ⟨ret_bool HE.out.symm, HR.out.ch⟩
  have hm : mayG g = true := by rw [mayG_eq, t1, t2, t3, t4]; rfl
  have HE := Lib.hid hm
  obtain ⟨n, hn, rfl⟩ := may_nat hm
  have HT := Lib.hid (end_any n hn)
  have HD := Lib.hid (show decide ((n.tot : Int) ≤ 4096) = true by have := hn.tot2; exact decide_eq_true (by omega))
  have t5 := HD.out
  clear hm hn
  go_enter Tryz.func39, Tryz.ntmps39
  go_wp2_with (first | ((with_reducible refine wpList_isOp (.box 23 (.tmp 0)) rfl ?_); refine wpList_boxing _ w1 rfl 23 (.tmp 0) rfl (geC n.ge) H rfl (by exact HR.out.sz) (by exact HR.out.al) ?_) | (go_at_call 69; refine (within_any _ _ _ _).mono ?_; rintro e w' ⟨rfl, rfl⟩) | (go_at_call 70; refine (HT.out _).mono ?_; rintro e w2 ⟨rfl, hc2⟩))
  go_ret
  exact ⟨ret_bool HE.out.symm, HR.out.ch.trans hc2⟩
end Go.Proofs.YteleknojohnlbaaGreat
namespace Go.Proofs.YteleknojohnlbaaGreat
open Go.RowKit
set_option linter.unusedVariables false
set_option maxRecDepth 100000
def wordS (n : Int) : Bool := inB n 0 4294967295
theorem digs_len5 {n : Nat} (h : n ≤ 4294967295) : (Cod.digs n).length ≤ 5 := by
  rcases Cod.digs_len 5 n (by omega) with h | h
  · exact h
  · omega
theorem numZ_at {z y : Nat → Nat} (h : ∀ c, c < 256 → z c = y c) {a : Nat} (ha : a + 3 < 256) : numZ z a = numZ y a := by
  unfold numZ
  rw [h a (by omega), h (a + 1) (by omega), h (a + 2) (by omega), h (a + 3) ha]
theorem readB_at {z y : Nat → Nat} (h : ∀ c, c < 256 → z c = y c) (V U : Value) : Same (readB V z) (readB U y) := by
  have hl : blkLong z = blkLong y := by unfold blkLong; rw [h 20 (by omega), h 21 (by omega)]
  have e : (readB V z).len = (readB U y).len := by
    show (if blkLong z ≤ 228 then blkLong z else 228) = (if blkLong y ≤ 228 then blkLong y else 228)
    rw [hl]
  refine ⟨?_, ?_, ?_, ?_, ?_, e, fun c hc => ?_⟩
  · show ((z 2 : Nat) : Int) = (y 2 : Nat); rw [h 2 (by omega)]
  · show ((numZ z 4 : Nat) : Int) = (numZ y 4 : Nat); rw [numZ_at h (by omega)]
  · show ((numZ z 8 : Nat) : Int) = (numZ y 8 : Nat); rw [numZ_at h (by omega)]
  · show ((numZ z 12 : Nat) : Int) = (numZ y 12 : Nat); rw [numZ_at h (by omega)]
  · show ((numZ z 16 : Nat) : Int) = (numZ y 16 : Nat); rw [numZ_at h (by omega)]
  · have : (readB U y).len ≤ 228 := by show (if blkLong y ≤ 228 then blkLong y else 228) ≤ 228; split <;> omega
    exact h (24 + c) (by omega)
theorem opensB_eq {z y : Nat → Nat} (h : ∀ c, c < 256 → z c = y c) : opensB 256 z = opensB 256 y := by
  have s := readB_at h undef undef
  have e : eqB 256 256 (sectZ (readB undef z)) z = eqB 256 256 (sectZ (readB undef y)) y := by
    unfold eqB
    refine decide_eq_decide.2 ⟨fun q => ⟨rfl, fun c hc => ?_⟩, fun q => ⟨rfl, fun c hc => ?_⟩⟩
    · rw [← h c hc, ← s.sect c]; exact q.2 c hc
    · rw [h c hc, s.sect c]; exact q.2 c hc
  rw [opensB_at, opensB_at, s.may, e]
theorem Same.trans {a b c : Bk} (h : Same a b) (k : Same b c) : Same a c := ⟨h.kind.trans k.kind, h.vol.trans k.vol, h.addr.trans k.addr, h.epoch.trans k.epoch, h.seq.trans k.seq, h.len.trans k.len, fun j hj => (h.z j (by rw [k.len]; exact hj)).trans (k.z j hj)⟩
theorem flat_left {P R : List Nat} {i : Nat} (h : i < P.length) : Cod.litZ (P ++ R) i = Cod.litZ P i := by rw [← Cod.litZ_app]; unfold jnZ; rw [if_pos h]
theorem flat_right (P R : List Nat) (i : Nat) : Cod.litZ (P ++ R) (P.length + i) = Cod.litZ R i := by rw [← Cod.litZ_app]; unfold jnZ; rw [if_neg (by omega), Nat.add_sub_cancel_left]
theorem foot_apart {base B j t : Nat} {w : World} {v : Value} {L : List Nat} {c : Array Value} (h : OutIs base w B v L) (hj : w.heap[j]? = some (.cells c t (0, 0))) (h1 : t ≠ 132) (h2 : t ≠ /-t-/5) : ¬ FootO B v j := fun f => by
  rcases f with rfl | f
  · exact cells_ne hj (show w.heap[j]? = _ from h.box) h1 rfl
  · obtain ⟨_, c2, hc2⟩ := own_at h.own f
    exact cells_ne hj hc2 h2 rfl
theorem open_len {n : Nat} {z : Nat → Nat} {V : Value} : (openB n z V).len ≤ 228 := by
  unfold openB
  split
  · exact readL_le z
  · exact Nat.zero_le _
end Go.Proofs.YteleknojohnlbaaGreat
namespace Go.Proofs.YteleknojohnlbaaGreat
open Go.RowKit Go.Shelf Cod
set_option linter.unusedVariables false
set_option maxRecDepth 100000
def bE (n : Nat) (z : Nat → Nat) (k e : Nat) : Nat := if resE T63 z k e = 0 then if resV T63 z k e ≤ 4096 then if resV T63 z k e ≤ n - resK T63 z k e then 0 else 6 else 2 else resE T63 z k e
def bL (n : Nat) (z : Nat → Nat) (k e : Nat) : Nat := if bE n z k e = 0 then resV T63 z k e else 0
def bK (n : Nat) (z : Nat → Nat) (k e : Nat) : Nat := if bE n z k e = 0 then resK T63 z k e + resV T63 z k e else 0
theorem b_bad {n : Nat} {z : Nat → Nat} {k e : Nat} (h : ¬ bE n z k e = 0) : bL n z k e = 0 ∧ bK n z k e = 0 := by unfold bL bK; rw [if_neg h, if_neg h]; exact ⟨rfl, rfl⟩
theorem b_ok {n : Nat} {z : Nat → Nat} {k e : Nat} (h : bE n z k e = 0) : bL n z k e = resV T63 z k e ∧ bK n z k e = resK T63 z k e + resV T63 z k e ∧ resE T63 z k e = 0 ∧ resV T63 z k e ≤ 4096 ∧ resV T63 z k e ≤ n - resK T63 z k e := by
  unfold bL bK
  rw [if_pos h, if_pos h]
  unfold bE at h
  split at h
  · split at h
    · split at h
      · rename_i h1 h2 h3; exact ⟨rfl, rfl, h1, h2, h3⟩
      · cases h
    · cases h
  · rename_i h1; exact absurd h h1
theorem bE_wrong {n : Nat} {z : Nat → Nat} {k e : Nat} (h : ¬ resE T63 z k e = 0) : bE n z k e = resE T63 z k e := by unfold bE; rw [if_neg h]
theorem bE_long {n : Nat} {z : Nat → Nat} {k e : Nat} (h : resE T63 z k e = 0) (h2 : ¬ resV T63 z k e ≤ 4096) : bE n z k e = 2 := by unfold bE; rw [if_pos h, if_neg h2]
theorem bE_short {n : Nat} {z : Nat → Nat} {k e : Nat} (h : resE T63 z k e = 0) (h2 : resV T63 z k e ≤ 4096) (h3 : ¬ resV T63 z k e ≤ n - resK T63 z k e) : bE n z k e = 6 := by unfold bE; rw [if_pos h, if_pos h2, if_neg h3]
theorem bE_fine {n : Nat} {z : Nat → Nat} {k e : Nat} (h : resE T63 z k e = 0) (h2 : resV T63 z k e ≤ 4096) (h3 : resV T63 z k e ≤ n - resK T63 z k e) : bE n z k e = 0 := by unfold bE; rw [if_pos h, if_pos h2, if_pos h3]
def BytesPost (B n : Nat) (x : Value) (z : Nat → Nat) (k e : Nat) (w : World) (en : Ending) (w' : World) : Prop :=
  ∃ y, en = .returned (.tuple #[y, .int .i64 (bE n z k e : Int)]) ∧ RowV w' y (bL n z k e) (fun i => z (resK T63 z k e + i)) ∧ w'.ownsRow w.heap.size /-t-/5 1 y (bL n z k e) (bytesL (bL n z k e) (fun i => z (resK T63 z k e + i))) ∧
    ∃ x', InIs w' B x' (n - bK n z k e) (fun i => z (bK n z k e + i)) ∧ (∀ S, Off S x → Off S x') ∧ Ch (fun i => i = B) w w'
theorem bytes_bad {B n k e E : Nat} {x : Value} {z : Nat → Nat} {w w' : World} (hE : bE n z k e = E) (h0 : ¬ E = 0) (h : InIs w B x n z) (hch : Ch (fun _ => False) w w') :
    BytesPost B n x z k e w (.returned (.tuple #[.slice none 0 0, .int .i64 (E : Int)])) w' := by
  obtain ⟨h1, h2⟩ := b_bad (hE ▸ h0)
  refine ⟨.slice none 0 0, by rw [hE], by rw [h1]; exact nil_row _ _, by rw [h1]; exact World.ownsRow_nil _ _ _ _, x, ?_, fun S h => h, hch.toN⟩
  rw [h2]
  exact (h.gr hch).congr (by omega) (fun i _ => by rw [Nat.zero_add])
theorem ahead_is {w : World} {B n : Nat} {x : Value} {z : Nat → Nat} (h : InIs w B x n z) : InIs (w.alloc (.cells #[x] 172)) w.heap.size x n z := by
  exact ⟨Boxed.new w _ _, h.row.gr ((Ch.refl _ w).alloc _ _), h.nn⟩
theorem Ch.newer {w w1 w2 : World} {B : Nat} (h : Ch (fun _ => False) w w1) (k : Ch (fun i => i = B) w1 w2) (hB : w.heap.size ≤ B) : Ch (fun _ => False) w w2 := h.new (k.mono (fun i _ e => by rw [e]; exact hB))
theorem bytes_good {B n k e K V : Nat} {x x' v : Value} {z : Nat → Nat} {w w1 w3 : World} (hE : bE n z k e = 0) (hL : bL n z k e = V) (hK : bK n z k e = K + V) (hKK : K = resK T63 z k e) (h : InIs w B x n z) (hch1 : Ch (fun _ => False) w w1)
    (hx : RowV w1 x' (n - K - V) (fun i => z (K + (V + i)))) (hnn : NN x') (hoff : Off (fun i => i = B) x') (hoff2 : ∀ S, Off S x → Off S x')
    (hv : w3.ownsRow (w1.setCell ⟨B, 0, none⟩ x').heap.size /-t-/5 1 v V (bytesL V (fun i => z (K + i)))) (hc : Ch (fun _ => False) (w1.setCell ⟨B, 0, none⟩ x') w3) (hby : Bytes V (fun i => z (K + i))) (hV : V ≤ 4096) :
    BytesPost B n x z k e w (.returned (.tuple #[v, .int .i64 0])) w3 := by
  have h1 := h.gr hch1
  have hs := (set_ch w1 B x').size
  refine ⟨v, by rw [hE]; rfl, ?_, by rw [hL, ← hKK]; exact ownsRow_low hv (Nat.le_trans hch1.size hs), x', ?_, hoff2, (hch1.toS (p := ⟨B, 0, none⟩) rfl x').trans hc.toN⟩
  · rw [hL, ← hKK]; exact ownsRow_rowV hv (by omega) hby
  · have h2 : InIs (w1.setCell ⟨B, 0, none⟩ x') B x' (n - K - V) (fun i => z (K + (V + i))) := ⟨h1.box.set x', hx.off (set_ch w1 B x') hoff, hnn⟩
    refine (h2.gr hc).congr (by rw [hK]; omega) (fun i _ => by rw [hK, Nat.add_assoc])
set_option maxHeartbeats 1000000 in
theorem ibytes_any (B n : Nat) (x : Value) (z : Nat → Nat) (k e : Nat) (w : World) (h : InIs w B x n z) (hr : Rd n z k e) (hn : n ≤ 1048576) :
    Calls Tryz.prog 85 #[.pointer (some ⟨B, 0, none⟩)] w (BytesPost B n x z k e w) := by
  obtain ⟨A, C, rfl, hl, _⟩ := id h.row
  have HN := Lib.hid (inum_any w.heap.size n (.slice A n C) z k e _ (ahead_is h) hr)
  have HCA := Lib.hid (show Ch (fun _ => False) w (w.alloc (.cells #[.slice A n C] 172)) from (Ch.refl _ w).alloc _ _)
  have HC := Lib.hid h.cell
  have HH := Lib.hid h
  have hv : (resV T63 z k e : Int) ≤ 9223372036854775807 := by have := resV_le T63 z k e; unfold T63 at this; unfold T63; omega
  have hBB : B < w.heap.size := h.box.lt
  by_cases hE : resE T63 z k e = 0
  · have t1 : ((resE T63 z k e : Int) != 0) = false := by simpa using hE
    by_cases h4 : resV T63 z k e ≤ 4096
    · have t2 : decide ((4096 : Int) < (resV T63 z k e : Int)) = false := by simp; omega
      by_cases h5 : resV T63 z k e ≤ n - resK T63 z k e
      · have HE := Lib.hid (bE_fine hE h4 h5)
        have HK := Lib.hid (b_ok (bE_fine hE h4 h5))
        obtain ⟨V, hV⟩ : ∃ V, V = resV T63 z k e := ⟨_, rfl⟩
        obtain ⟨K, hK⟩ : ∃ K, K = resK T63 z k e := ⟨_, rfl⟩
        obtain ⟨M, hM⟩ : ∃ M, M = n - K := ⟨_, rfl⟩
        rw [← hV] at HN HK t2 h4 h5 hv
        rw [← hK] at HN HK h5
        rw [← hM] at HK h5
        rw [hE] at HN
        have t3 : decide (M < V) = false := by simp; omega
        have HKK := Lib.hid hK
        have HMM := Lib.hid hM
        have hV4 := h4
        have hVM := h5
        clear hV hK hM t1
        clear h hl hr hE h4 h5
        go_enter Tryz.func85, Tryz.ntmps85
        go_wp2_with fail
        refine (rest_any B A n C _ HC.out).mono ?_
        rintro e' w' ⟨rfl, rfl⟩
        go_wp2_with fail
        refine HN.out.mono ?_
        rintro e' w1 ⟨rfl, x1, hx1, ho1, hch1⟩
        have HC1 := Lib.hid (HCA.out.newer hch1 (Nat.le_refl _))
        rw [← HMM.out] at hx1
        obtain ⟨A1, D, rfl, hl1, hr1⟩ := id hx1.row
        have HB1 := Lib.hid (HH.out.gr HC1.out)
        have ca := hx1.cell
        have cb := HB1.out.cell
        have fb := HB1.out.box.frozen
        have HX := Lib.hid hx1
        have hoB := ho1 _ HH.out.off
        have hl2 := hl1.1
        have hl3 := hl1.2
        have hq1 : ¬ w.heap.size = B := by omega
        have hq2 : ¬ B = w.heap.size := by omega
        cases A1 with
        | none =>
          have hM : M = 0 := by
            rcases Nat.eq_zero_or_pos M with q | q
            · exact q
            · obtain ⟨_, _, q, _⟩ := hr1 q; cases q
          obtain rfl := hx1.nn.1 _ _ rfl
          subst hM
          obtain rfl : V = 0 := by omega
          clear hx1 hr1 hl1 hch1
          go_wp2_with fail
          refine (left_any w.heap.size 0 _ _ _ HX.out).mono ?_
          rintro e' w' ⟨rfl, rfl⟩
          go_wp2_with fail
          refine (clone_any none 0 0 (fun i => z (K + i)) _ (nil_row _ _) (by omega)).mono ?_
          rintro e' w3 ⟨v, rfl, hv, hc⟩
          have HF := Lib.hid (bytes_good HE.out HK.out.1 HK.out.2.1 HKK.out HH.out HC1.out (x' := .slice none 0 0) (by rw [← HMM.out]; exact nil_row _ _) nn_none Off.zero ho1 hv hc (fun c hc => absurd hc (Nat.not_lt_zero c)) (by omega))
          clear hv hc
          go_wp2
          go_ret2
          exact HF.out
        | some ad =>
          obtain ⟨b, o, rfl⟩ := hx1.nn.2 _ _ _ rfl
          have HBY : Hid (Bytes V (fun i => z (K + i))) := fun c hc => hx1.row.bytes c (by omega)
          have hoB' : ∀ p m C', Off (fun i => i = B) (.slice (some ⟨b, p, none⟩) m C') ∨ M = 0 := fun p m C' => by
            rcases Nat.eq_zero_or_pos M with q | q
            · exact Or.inr q
            · exact Or.inl (hoB.part q)
          by_cases hD : D = V
          · subst hD
            obtain rfl : M = D := by omega
            have HT := Lib.hid (show RowV w1 (.slice (some ⟨b, o, none⟩) 0 0) (n - K - M) (fun i => z (K + (M + i))) by rw [← HMM.out, Nat.sub_self]; exact none_row _ _ _)
            have HO1 : Hid (Off (fun i => i = B) (.slice (some ⟨b, o, none⟩) 0 0)) := Off.zero
            have HO2 : Hid (∀ S, Off S (.slice A n C) → Off S (.slice (some ⟨b, o, none⟩) 0 0)) := fun S _ => Off.zero
            have HCL := Lib.hid (clone_any (some ⟨b, o, none⟩) M M (fun i => z (K + i)) _ (hx1.row.off (set_ch w1 B (.slice (some ⟨b, o, none⟩) 0 0)) hoB) (by omega))
            clear hx1 hr1 hl1 hch1 hoB hoB' ho1
            go_wp2_with fail
            refine (left_any w.heap.size M _ _ _ HX.out).mono ?_
            rintro e' w' ⟨rfl, rfl⟩
            go_wp2_with fail
            refine HCL.out.mono ?_
            rintro e' w3 ⟨v, rfl, hv, hc⟩
            have HF := Lib.hid (bytes_good HE.out HK.out.1 HK.out.2.1 HKK.out HH.out HC1.out HT.out (nn_some _ _ _ _) HO1.out HO2.out hv hc HBY.out hV4)
            clear hv hc
            go_wp2
            go_ret2
            exact HF.out
          · have HT := Lib.hid (show RowV w1 (.slice (some ⟨b, o + V, none⟩) (M - V) (D - V)) (n - K - V) (fun i => z (K + (V + i))) by rw [← HMM.out]; exact row_tail hx1.row hVM)
            have HO1 : Hid (Off (fun i => i = B) (.slice (some ⟨b, o + V, none⟩) (M - V) (D - V))) := by
              rcases Nat.eq_zero_or_pos M with q | q
              · rw [q, Nat.zero_sub]; exact Off.zero
              · exact hoB.part q
            have HO2 : Hid (∀ S, Off S (.slice A n C) → Off S (.slice (some ⟨b, o + V, none⟩) (M - V) (D - V))) := fun S hS => by
              rcases Nat.eq_zero_or_pos M with q | q
              · rw [q, Nat.zero_sub]; exact Off.zero
              · exact (ho1 S hS).part q
            have HCL := Lib.hid (clone_any (some ⟨b, o, none⟩) V D (fun i => z (K + i)) _ (row_front (hx1.row.off (set_ch w1 B (.slice (some ⟨b, o + V, none⟩) (M - V) (D - V))) hoB) hVM) (by omega))
            have e5 : ((M - V : Nat) : Int) = (M : Int) - (V : Int) := by omega
            have e6 : ((D - V : Nat) : Int) = (D : Int) - (V : Int) := by omega
            have t4 : (D : Int) - (V : Int) ≠ 0 := by omega
            clear hx1 hr1 hl1 hch1 hoB hoB' ho1
            go_wp2_with fail
            refine (left_any w.heap.size M _ _ _ HX.out).mono ?_
            rintro e' w' ⟨rfl, rfl⟩
            go_wp2_with fail
            refine HCL.out.mono ?_
            rintro e' w3 ⟨v, rfl, hv, hc⟩
            have HF := Lib.hid (bytes_good HE.out HK.out.1 HK.out.2.1 HKK.out HH.out HC1.out HT.out (nn_some _ _ _ _) HO1.out HO2.out hv hc HBY.out hV4)
            clear hv hc
            go_wp2
            go_ret2
            exact HF.out
      · have t3 : decide (n - resK T63 z k e < resV T63 z k e) = true := by simp; omega
        have HF := Lib.hid (fun w' : World => bytes_bad (w' := w') (bE_short hE h4 h5) (by decide) h)
        clear h hl hr h4 h5 hE
        go_enter Tryz.func85, Tryz.ntmps85
        go_wp2_with fail
        refine (rest_any B A n C _ HC.out).mono ?_
        rintro e' w' ⟨rfl, rfl⟩
        go_wp2_with fail
        refine HN.out.mono ?_
        rintro e' w1 ⟨rfl, x1, hx1, ho1, hch1⟩
        have HC1 := Lib.hid (HCA.out.newer hch1 (Nat.le_refl _))
        have HX := Lib.hid hx1
        clear hx1 ho1 hch1
        go_wp2_with fail
        refine (left_any w.heap.size _ _ _ _ HX.out).mono ?_
        rintro e' w' ⟨rfl, rfl⟩
        go_wp2
        go_ret2
        exact HF.out _ HC1.out
    · have t2 : decide ((4096 : Int) < (resV T63 z k e : Int)) = true := by simp; omega
      have HF := Lib.hid (fun w' : World => bytes_bad (w' := w') (bE_long hE h4) (by decide) h)
      clear h hl hr h4 hE
      go_enter Tryz.func85, Tryz.ntmps85
      go_wp2_with fail
      refine (rest_any B A n C _ HC.out).mono ?_
      rintro e' w' ⟨rfl, rfl⟩
      go_wp2_with fail
      refine HN.out.mono ?_
      rintro e' w1 ⟨rfl, x1, hx1, ho1, hch1⟩
      have HC1 := Lib.hid (HCA.out.newer hch1 (Nat.le_refl _))
      clear hx1 ho1 hch1
      go_wp2
      go_ret2
      exact HF.out _ HC1.out
  · have t1 : ((resE T63 z k e : Int) != 0) = true := by simpa using hE
    have HF := Lib.hid (fun w' : World => bytes_bad (w' := w') (bE_wrong hE) hE h)
    clear h hl hr hv
    go_enter Tryz.func85, Tryz.ntmps85
    go_wp2_with fail
    refine (rest_any B A n C _ HC.out).mono ?_
    rintro e' w' ⟨rfl, rfl⟩
    go_wp2_with fail
    refine HN.out.mono ?_
    rintro e' w1 ⟨rfl, x1, hx1, ho1, hch1⟩
    have HC1 := Lib.hid (HCA.out.newer hch1 (Nat.le_refl _))
    clear hx1 ho1 hch1
    go_wp2
    go_ret2
    exact HF.out _ HC1.out
end Go.Proofs.YteleknojohnlbaaGreat
