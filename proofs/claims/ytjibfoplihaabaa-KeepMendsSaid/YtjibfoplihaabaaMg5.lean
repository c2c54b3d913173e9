/-
  law06.Sector; disk.New; (*disk.Disk).Dead, Len, Ops, has, open, dies, walked.
-/
import Derived.Test.YtjibfoplihaabaaMg4
namespace Go.Proofs.Ytjibfoplihaabaa
open Go.RowKit
set_option linter.unusedVariables false
set_option maxRecDepth 100000

/-! ### Sector -/
/-- A new row of bytes. -/
def NewSec (k : Nat) (z : Nat → Nat) (w : World) (e : Ending) (w' : World) : Prop := ∃ b, e = .returned (.slice (some ⟨b, 0, none⟩) k k) ∧ w'.rowIs b /-t-/5 k (fun i => .int .u8 (z i : Int)) ∧ w.heap.size ≤ b ∧ Ch (fun _ => False) w w'
theorem rowIs_rowV {w : World} {b k : Nat} {z : Nat → Nat} (h : w.rowIs b /-t-/5 k (fun i => .int .u8 (z i : Int))) (hk : k ≤ 65536) (hz : Bytes k z) : RowV w (.slice (some ⟨b, 0, none⟩) k k) k z :=
  ⟨_, _, rfl, by omega, fun _ => ⟨b, 0, rfl, fun c hc => ⟨by rw [Nat.zero_add]; exact h.cell hc, hz c hc⟩⟩⟩
set_option maxHeartbeats 400000 in
set_option maxRecDepth 100000 in
theorem sector_any (b : Nat) (hb : b < 256) (w : World) : Calls Try.prog 18 #[.int .u8 (b : Int)] w (NewSec 256 (fun _ => b) w) := by
  have hmk : ∀ w : World, (Instr.makeSlice /-t-/47 (.int .i64 256) (.int .i64 256)).run Try.prog w = .ok (.slice (some ⟨w.heap.size, 0, none⟩) 256 256) (w.alloc (.cells (madeCells #[.int .u8 0] 256) /-t-/5)) := fun w => by
    obtain ⟨i0, hi, hz0, hz1, hz2⟩ := info_parts Try.info5
    have := run_make (P := Try.prog) w /-t-/47 /-t-/5 i0 (.int .u8 0) Try.underlying47 hi hz0 .i64 .i64 256 256 (by omega) (by omega) (by rw [hz2]; omega) (by omega)
    rw [hz1] at this
    exact this
  have HR := Lib.hid (World.rowIs_made w (.int .u8 0) 256 /-t-/5)
  have HC := Lib.hid ((Ch.refl (fun _ => False) w).alloc (madeCells #[.int .u8 0] 256) /-t-/5)
  obtain ⟨B, hB⟩ : ∃ B, B = w.heap.size := ⟨_, rfl⟩
  obtain ⟨w1, hw1⟩ : ∃ w1, w1 = w.alloc (.cells (madeCells #[.int .u8 0] 256) /-t-/5) := ⟨_, rfl⟩
  rw [← hB, ← hw1] at HR
  rw [← hw1] at HC
  have hmk1 := hmk w
  rw [← hB, ← hw1] at hmk1
  have HB := Lib.hid (Nat.le_of_eq hB.symm)
  clear hmk hB hw1
  go_enter Try.func18, Try.ntmps18
  go_wp2
  go_loopw [4] (fun i wr => ∃ k : Nat, k ≤ 256 ∧ i = .int .i64 k ∧ Hid (wr.rowIs B /-t-/5 256 (fun j => .int .u8 ((if j < k then b else 0 : Nat) : Int)) ∧ Ch (fun _ => False) w wr)) (fun i _ => 256 - (intOf i).toNat)
  case atStart => exact ⟨0, Nat.zero_le _, rfl, Lib.hid ⟨HR.out.congr fun i _ => by rw [if_neg (Nat.not_lt_zero i)]; rfl, HC.out⟩⟩
  case round =>
    obtain ⟨k, hk, rfl, HK⟩ := hrel
    by_cases hlt : k < 256
    · have c1 := HK.out.1.cell hlt
      have f1 := HK.out.1.frozen k
      have HS := Lib.hid ((HK.out.1.set k (.int .u8 (b : Int))).congr (g := fun j => .int .u8 ((if j < k + 1 then b else 0 : Nat) : Int)) fun i _ => by
        by_cases e : i = k
        · rw [if_pos e, if_pos (by omega)]
        · rw [if_neg e]
          by_cases q : i < k
          · rw [if_pos q, if_pos (by omega)]
          · rw [if_neg q, if_neg (by omega)])
      have HC2 := Lib.hid (show Ch (fun _ => False) w (wr.setCell ⟨B, k, none⟩ (.int .u8 (b : Int))) from HK.out.2.setCell (Or.inr HB.out) _)
      go_wp2
      go_roundw
      case rel => exact ⟨k + 1, by omega, by go_num, Lib.hid ⟨HS.out, HC2.out⟩⟩
      case measure => simp [intOf]; omega
    · obtain rfl : k = 256 := by omega
      go_wp2
      go_ret
      exact ⟨B, rfl, HK.out.1.congr fun i hi => by rw [if_pos hi], HB.out, HK.out.2⟩
#print axioms sector_any

/-! ### New -/
def dev0 (n : Nat) : Dev := { n := n, has := fun _ _ => 0, lost := fun _ => false, drops := fun _ => 0, miss := fun _ => [], W := [], dead := false, armed := false, left := 0, ops := 0 }
def sec0 : Array Value := (bytesL 256 (fun _ => 0)).toArray ++ #[.bool false, .int .i64 0, .slice none 0 0]
theorem info_sector : (Try.prog.info? 92).map (fun i => (i.zero, i.size, i.bytes)) = some (some (.agg sec0), 259, 296) := by kernel_rfl
#print axioms info_sector
theorem sec0_get {j : Nat} (h : j < 259) (d : Dev) (m : Nat → Value) (a : Nat) (h1 : d.has a j = 0) (h2 : d.lost a = false) (h3 : d.drops a = 0) (h4 : m a = .slice none 0 0) : sec0[j]? = some (secV d m a j) := by
  unfold sec0 secV
  by_cases q : j < 256
  · rw [Array.getElem?_append_left (by simpa [bytesL_len] using q), if_pos q, h1]
    have := bytesL_get (z := fun _ => 0) q
    simpa using this
  · rw [Array.getElem?_append_right (by simp [bytesL_len]; omega), if_neg q]
    rw [show ((bytesL 256 fun _ => 0).toArray).size = 256 by simp [bytesL_len]]
    by_cases q1 : j = 256
    · subst q1; rw [if_pos rfl, h2]; rfl
    · by_cases q2 : j = 257
      · subst q2; rw [if_neg q1, if_pos rfl, h3]; rfl
      · obtain rfl : j = 258 := by omega
        rw [if_neg q1, if_neg q2, h4]; rfl
theorem underlying_sectors : Try.prog.underlying 76 = some (.slice 92) := by kernel_rfl
theorem made_sec (w : World) (n m : Nat) (hm : m = n * 259) : (w.alloc (.cells (madeCells sec0 m) 92)).rowIs w.heap.size 92 (n * 259) (fun i => secV (dev0 n) (fun _ => .slice none 0 0) (i / 259) (i % 259)) := by
  subst hm
  have hs : sec0.size = 259 := by unfold sec0; simp [bytesL_len]
  have := World.rowIs_alloc w (madeCells sec0 (n * 259)) 92 (fun i => secV (dev0 n) (fun _ => .slice none 0 0) (i / 259) (i % 259)) fun i hi => by
    rw [size_madeCells] at hi
    have hj : i % 259 < 259 := Nat.mod_lt _ (by omega)
    unfold madeCells
    rw [hs]
    have h2 := sec0_get hj (dev0 n) (fun _ => .slice none 0 0) (i / 259) rfl rfl rfl rfl
    simp [hi]
    rw [getElem!_def, h2]
  rwa [size_madeCells] at this
set_option maxHeartbeats 400000 in
theorem new_bad (n : Int) (w : World) (h : n < 1 ∨ 4096 < n) : Calls Try.prog 15 #[.int .i64 n] w fun e w' => e = .returned (.tuple #[.pointer none, .int .i64 1]) ∧ w = w' := by
  by_cases h1 : n < 1
  · clear h
    go_enter Try.func15, Try.ntmps15
    go_wp2
    go_ret2
    exact ⟨rfl, rfl⟩
  · have h2 : 4096 < n := by omega
    clear h
    go_enter Try.func15, Try.ntmps15
    go_wp2
    go_ret2
    exact ⟨rfl, rfl⟩
set_option maxHeartbeats 400000 in
theorem new_any (n : Nat) (w : World) (h : 1 ≤ n) (h2 : n ≤ 4096) : Calls Try.prog 15 #[.int .i64 (n : Int)] w fun e w' => ∃ p, e = .returned (.tuple #[.pointer (some ⟨p.B, 0, none⟩), .int .i64 0]) ∧ DevIs w.heap.size w' p (dev0 n) ∧ Ch (fun _ => False) w w' := by
  have hmk : ∀ w : World, (Instr.makeSlice 76 (.int .i64 (n : Int)) (.int .i64 (n : Int))).run Try.prog w = .ok (.slice (some ⟨w.heap.size, 0, none⟩) n n) (w.alloc (.cells (madeCells sec0 (n * 259)) 92)) := fun w => by
    obtain ⟨i0, hi, hz0, hz1, hz2⟩ := info_parts info_sector
    have := run_make (P := Try.prog) w 76 92 i0 _ underlying_sectors hi hz0 .i64 .i64 (n : Int) (n : Int) (by omega) (by omega) (by rw [hz2]; omega) (by omega)
    rw [hz1] at this
    exact this
  have HR := Lib.hid (made_sec w n (n * 259) rfl)
  have HC := Lib.hid ((Ch.refl (fun _ => False) w).alloc (madeCells sec0 (n * 259)) 92)
  obtain ⟨B, hB⟩ : ∃ B, B = w.heap.size := ⟨_, rfl⟩
  obtain ⟨w1, hw1⟩ : ∃ w1, w1 = w.alloc (.cells (madeCells sec0 (n * 259)) 92) := ⟨_, rfl⟩
  have HS := Lib.hid (show w1.heap.size = w.heap.size + 1 by rw [hw1]; simp)
  rw [← hB, ← hw1] at HR
  rw [← hw1] at HC
  have hmk1 := hmk w
  rw [← hB, ← hw1] at hmk1
  have HB := Lib.hid hB
  clear hmk hB hw1
  go_enter Try.func15, Try.ntmps15
  go_wp2
  go_ret2
  refine ⟨⟨w1.heap.size, B, .slice none 0 0, fun _ => .slice none 0 0, n⟩, rfl, ?_, HC.out.alloc _ _⟩
  refine ⟨heap_alloc_new _ _, SecsIs.of_row (HR.out.alloc _), World.ownsRow_nil _ _ _ _, fun a _ => Or.inl ⟨rfl, rfl⟩, fun a b _ _ i hi => (by cases hi), (by show w.heap.size ≤ w1.heap.size; rw [HS.out]; omega), (by show w.heap.size ≤ B; rw [HB.out]; exact Nat.le_refl _), fun a _ i hi => (by cases hi), fun a c _ _ => (by decide : 0 < 256), fun x hx => (by cases hx), fun a _ x hx => (by cases hx), ⟨h, h2⟩, ⟨(by decide : (-9223372036854775808 : Int) ≤ 0), (by decide : (0 : Int) ≤ 9223372036854775807)⟩⟩
#print axioms new_any

/-! ### what is asked -/
set_option maxHeartbeats 400000 in
theorem dead_nil (w : World) : Calls Try.prog 29 #[.pointer none] w fun e w' => e = .returned (.bool true) ∧ w = w' := by
  go_enter Try.func29, Try.ntmps29
  go_wp2
  go_ret
  exact ⟨rfl, rfl⟩
set_option maxHeartbeats 400000 in
theorem dead_any (base : Nat) (p : Ph) (d : Dev) (w : World) (h : DevIs base w p d) : Calls Try.prog 29 #[.pointer (some ⟨p.B, 0, none⟩)] w fun e w' => e = .returned (.bool d.dead) ∧ w = w' := by
  have c2 : w.cell? ⟨p.B, 2, none⟩ = some (.bool d.dead) := h.cellB 2
  obtain ⟨B, G, V, m, cG⟩ := p
  clear h
  go_enter Try.func29, Try.ntmps29
  go_wp2
  go_ret
  exact ⟨rfl, rfl⟩
set_option maxHeartbeats 400000 in
theorem len_nil (w : World) : Calls Try.prog 47 #[.pointer none] w fun e w' => e = .returned (.int .i64 0) ∧ w = w' := by
  go_enter Try.func47, Try.ntmps47
  go_wp2
  go_ret
  exact ⟨rfl, rfl⟩
set_option maxHeartbeats 400000 in
theorem len_any (base : Nat) (p : Ph) (d : Dev) (w : World) (h : DevIs base w p d) : Calls Try.prog 47 #[.pointer (some ⟨p.B, 0, none⟩)] w fun e w' => e = .returned (.int .i64 (d.n : Int)) ∧ w = w' := by
  have c0 : w.cell? ⟨p.B, 0, none⟩ = some (.slice (some ⟨p.G, 0, none⟩) d.n p.c) := h.cellB 0
  obtain ⟨B, G, V, m, cG⟩ := p
  clear h
  go_enter Try.func47, Try.ntmps47
  go_wp2
  go_ret
  exact ⟨rfl, rfl⟩
set_option maxHeartbeats 400000 in
theorem ops_nil (w : World) : Calls Try.prog 30 #[.pointer none] w fun e w' => e = .returned (.int .i64 0) ∧ w = w' := by
  go_enter Try.func30, Try.ntmps30
  go_wp2
  go_ret
  exact ⟨rfl, rfl⟩
set_option maxHeartbeats 400000 in
theorem ops_any (base : Nat) (p : Ph) (d : Dev) (w : World) (h : DevIs base w p d) : Calls Try.prog 30 #[.pointer (some ⟨p.B, 0, none⟩)] w fun e w' => e = .returned (.int .i64 (d.ops : Int)) ∧ w = w' := by
  have c5 : w.cell? ⟨p.B, 5, none⟩ = some (.int .i64 (d.ops : Int)) := h.cellB 5
  obtain ⟨B, G, V, m, cG⟩ := p
  clear h
  go_enter Try.func30, Try.ntmps30
  go_wp2
  go_ret
  exact ⟨rfl, rfl⟩
/-- Is there a sector a? -/
def hasB (d : Dev) (a : Int) : Bool := decide (0 ≤ a ∧ a < d.n)
set_option maxHeartbeats 400000 in
theorem has_nil (a : Int) (w : World) : Calls Try.prog 33 #[.pointer none, .int .i64 a] w fun e w' => e = .returned (.bool false) ∧ w = w' := by
  by_cases h1 : 0 ≤ a
  · have h2 : ¬ a < 0 := by omega
    go_enter Try.func33, Try.ntmps33
    go_wp2_with fail
    refine (len_nil _).mono ?_
    rintro e w1 ⟨rfl, rfl⟩
    go_wp2
    go_ret
    exact ⟨ret_bool (decide_eq_false (by omega)), rfl⟩
  · go_enter Try.func33, Try.ntmps33
    go_wp2
    go_ret
    exact ⟨rfl, rfl⟩
set_option maxHeartbeats 400000 in
theorem dhas_any (base : Nat) (p : Ph) (d : Dev) (a : Int) (w : World) (h : DevIs base w p d) : Calls Try.prog 33 #[.pointer (some ⟨p.B, 0, none⟩), .int .i64 a] w fun e w' => e = .returned (.bool (hasB d a)) ∧ w = w' := by
  have HL := Lib.hid (len_any base p d w h)
  obtain ⟨B, G, V, m, cG⟩ := p
  clear h
  by_cases h1 : 0 ≤ a
  · by_cases h2 : a < d.n
    · have HS := Lib.hid (show hasB d a = true from decide_eq_true ⟨h1, h2⟩)
      go_enter Try.func33, Try.ntmps33
      go_wp2_with fail
      refine HL.out.mono ?_
      rintro e w1 ⟨rfl, rfl⟩
      go_wp2
      go_ret
      exact ⟨ret_bool HS.out.symm, rfl⟩
    · have HS := Lib.hid (show hasB d a = false from decide_eq_false fun q => h2 q.2)
      go_enter Try.func33, Try.ntmps33
      go_wp2_with fail
      refine HL.out.mono ?_
      rintro e w1 ⟨rfl, rfl⟩
      go_wp2
      go_ret
      exact ⟨ret_bool (by rw [HS.out]; exact decide_eq_false (by omega)), rfl⟩
  · have HS := Lib.hid (show hasB d a = false from decide_eq_false fun q => h1 q.1)
    go_enter Try.func33, Try.ntmps33
    go_wp2
    go_ret
    exact ⟨ret_bool HS.out.symm, rfl⟩
/-- What is wrong with any use of the sector a. -/
def openE (d : Dev) (a : Int) : Int := if d.dead then 21 else if hasB d a then 0 else 3
set_option maxHeartbeats 400000 in
theorem open_nil (a : Int) (w : World) : Calls Try.prog 36 #[.pointer none, .int .i64 a] w fun e w' => e = .returned (.int .i64 21) ∧ w = w' := by
  go_enter Try.func36, Try.ntmps36
  go_wp2_with fail
  refine (dead_nil _).mono ?_
  rintro e w1 ⟨rfl, rfl⟩
  go_wp2
  go_ret
  exact ⟨rfl, rfl⟩
set_option maxHeartbeats 400000 in
theorem open_any (base : Nat) (p : Ph) (d : Dev) (a : Int) (w : World) (h : DevIs base w p d) : Calls Try.prog 36 #[.pointer (some ⟨p.B, 0, none⟩), .int .i64 a] w fun e w' => e = .returned (.int .i64 (openE d a)) ∧ w = w' := by
  have HD := Lib.hid (dead_any base p d w h)
  have HH := Lib.hid (dhas_any base p d a w h)
  obtain ⟨B, G, V, m, cG⟩ := p
  clear h
  cases hd : d.dead
  · rw [hd] at HD
    cases hh : hasB d a
    · rw [hh] at HH
      have HS := Lib.hid (show openE d a = 3 by unfold openE; rw [hd, hh]; rfl)
      clear hd hh
      go_enter Try.func36, Try.ntmps36
      go_wp2_with fail
      refine HD.out.mono ?_
      rintro e w1 ⟨rfl, rfl⟩
      go_wp2_with fail
      refine HH.out.mono ?_
      rintro e w1 ⟨rfl, rfl⟩
      go_wp2
      go_ret
      exact ⟨ret_int HS.out.symm, rfl⟩
    · rw [hh] at HH
      have HS := Lib.hid (show openE d a = 0 by unfold openE; rw [hd, hh]; rfl)
      clear hd hh
      go_enter Try.func36, Try.ntmps36
      go_wp2_with fail
      refine HD.out.mono ?_
      rintro e w1 ⟨rfl, rfl⟩
      go_wp2_with fail
      refine HH.out.mono ?_
      rintro e w1 ⟨rfl, rfl⟩
      go_wp2
      go_ret
      exact ⟨ret_int HS.out.symm, rfl⟩
  · rw [hd] at HD
    have HS := Lib.hid (show openE d a = 21 by unfold openE; rw [hd]; rfl)
    clear hd
    go_enter Try.func36, Try.ntmps36
    go_wp2_with fail
    refine HD.out.mono ?_
    rintro e w1 ⟨rfl, rfl⟩
    go_wp2
    go_ret
    exact ⟨ret_int HS.out.symm, rfl⟩
#print axioms open_any

/-! ### what turns a field -/
section
variable {base : Nat} {w : World} {p : Ph} {d : Dev}
theorem chB (h : DevIs base w p d) (i : Nat) (v : Value) : Ch (fun j => j = p.B ∨ j = p.G) w (w.setCell ⟨p.B, i, none⟩ v) := Ch.setCell (S := fun j => j = p.B ∨ j = p.G) (Ch.refl _ w) (p := ⟨p.B, i, none⟩) (Or.inl (Or.inl rfl)) v
theorem chBF {w' : World} (h : Ch (fun j => j = p.B ∨ j = p.G) w w') : Ch (Foot p d) w w' := h.mono fun i _ hi => hi.elim (fun e => Or.inl e) (fun e => Or.inr (Or.inl e))
theorem secB (h : DevIs base w p d) (i : Nat) (v : Value) : SecsIs (w.setCell ⟨p.B, i, none⟩ v) p.G 92 (d.n * 259) (fun i => secV d p.m (i / 259) (i % 259)) := h.sec.setOther (a := ⟨p.B, i, none⟩) h.BG.symm v
theorem DevIs.setDead (h : DevIs base w p d) (b : Bool) : DevIs base (w.setCell ⟨p.B, 2, none⟩ (.bool b)) p { d with dead := b } := h.turn (d' := { d with dead := b }) (chB h 2 _) (blk_set h.blk _) (secB h 2 _) rfl rfl rfl h.byt h.lf
theorem DevIs.setArmed (h : DevIs base w p d) (b : Bool) : DevIs base (w.setCell ⟨p.B, 3, none⟩ (.bool b)) p { d with armed := b } := h.turn (d' := { d with armed := b }) (chB h 3 _) (blk_set h.blk _) (secB h 3 _) rfl rfl rfl h.byt h.lf
theorem DevIs.setLeft (h : DevIs base w p d) (x : Int) (hx : -9223372036854775808 ≤ x ∧ x ≤ 9223372036854775807) : DevIs base (w.setCell ⟨p.B, 4, none⟩ (.int .i64 x)) p { d with left := x } := h.turn (d' := { d with left := x }) (chB h 4 _) (blk_set h.blk _) (secB h 4 _) rfl rfl rfl h.byt hx
theorem DevIs.setOps (h : DevIs base w p d) (x : Nat) : DevIs base (w.setCell ⟨p.B, 5, none⟩ (.int .i64 (x : Int))) p { d with ops := x } := h.turn (d' := { d with ops := x }) (chB h 5 _) (blk_set h.blk _) (secB h 5 _) rfl rfl rfl h.byt h.lf
end
/-- Does it die now? -/
def diesB (d : Dev) : Bool := d.armed && decide (d.left ≤ 0)
def diesD (d : Dev) : Dev := if d.armed = true then if 0 < d.left then { d with left := d.left - 1 } else { d with dead := true } else d
set_option maxHeartbeats 400000 in
theorem dies_any (base : Nat) (p : Ph) (d : Dev) (w : World) (h : DevIs base w p d) : Calls Try.prog 59 #[.pointer (some ⟨p.B, 0, none⟩)] w fun e w' => e = .returned (.bool (diesB d)) ∧ DevIs base w' p (diesD d) ∧ Ch (Foot p d) w w' := by
  have c2 : w.cell? ⟨p.B, 2, none⟩ = some (.bool d.dead) := h.cellB 2
  have c3 : w.cell? ⟨p.B, 3, none⟩ = some (.bool d.armed) := h.cellB 3
  have c4 : w.cell? ⟨p.B, 4, none⟩ = some (.int .i64 d.left) := h.cellB 4
  have f2 := h.frB 2
  have f4 := h.frB 4
  have HH := Lib.hid h
  have hl := h.lf
  obtain ⟨B, G, V, m, cG⟩ := p
  clear h
  cases ha : d.armed
  · rw [ha] at c3
    have HS := Lib.hid (show diesB d = false ∧ diesD d = d by unfold diesB diesD; rw [ha]; exact ⟨rfl, rfl⟩)
    clear ha
    go_enter Try.func59, Try.ntmps59
    go_wp2
    go_ret
    exact ⟨ret_bool HS.out.1.symm, by rw [HS.out.2]; exact HH.out, Ch.refl _ _⟩
  · rw [ha] at c3
    by_cases hq : 0 < d.left
    · have HS := Lib.hid (show diesB d = false ∧ diesD d = { d with left := d.left - 1 } by
        unfold diesB diesD
        rw [ha]
        exact ⟨by simp; omega, by simp [hq]⟩)
      have HD := Lib.hid (HH.out.setLeft (d.left - 1) (by omega))
      have HC := Lib.hid (chBF (d := d) (chB HH.out 4 (.int .i64 (d.left - 1))))
      clear ha
      go_enter Try.func59, Try.ntmps59
      go_wp2
      go_ret
      exact ⟨ret_bool HS.out.1.symm, by rw [HS.out.2]; exact HD.out, HC.out⟩
    · have HS := Lib.hid (show diesB d = true ∧ diesD d = { d with dead := true } by
        unfold diesB diesD
        rw [ha]
        exact ⟨by simp; omega, by simp [hq]⟩)
      have HD := Lib.hid (HH.out.setDead true)
      have HC := Lib.hid (chBF (d := d) (chB HH.out 2 (.bool true)))
      clear ha
      go_enter Try.func59, Try.ntmps59
      go_wp2
      go_ret
      exact ⟨ret_bool HS.out.1.symm, by rw [HS.out.2]; exact HD.out, HC.out⟩
#print axioms dies_any
set_option maxHeartbeats 400000 in
theorem arm_nil (n : Int) (w : World) : Calls Try.prog 25 #[.pointer none, .int .i64 n] w fun e w' => e = .returned (.tuple #[]) ∧ w = w' := by
  go_enter Try.func25, Try.ntmps25
  go_wp2
  refine bodyPost_ret (results_none rfl _ _ _) rfl ?_
  exact ⟨rfl, rfl⟩
def armD (d : Dev) (n : Int) : Dev := { d with armed := decide (0 ≤ n), left := n }
set_option maxHeartbeats 400000 in
theorem arm_any (base : Nat) (p : Ph) (d : Dev) (n : Int) (w : World) (h : DevIs base w p d) (hn : -9223372036854775808 ≤ n ∧ n ≤ 9223372036854775807) : Calls Try.prog 25 #[.pointer (some ⟨p.B, 0, none⟩), .int .i64 n] w (DPost base p d (armD d n) (.tuple #[]) w) := by
  have c3 : w.cell? ⟨p.B, 3, none⟩ = some (.bool d.armed) := h.cellB 3
  have c4 : w.cell? ⟨p.B, 4, none⟩ = some (.int .i64 d.left) := h.cellB 4
  have f3 := h.frB 3
  have f4 := h.frB 4
  have HD := Lib.hid ((h.setArmed (decide (0 ≤ n))).setLeft n hn)
  have HC := Lib.hid (chBF (d := d) ((chB h 3 (.bool (decide (0 ≤ n)))).trans (chB (h.setArmed (decide (0 ≤ n))) 4 (.int .i64 n))))
  obtain ⟨B, G, V, m, cG⟩ := p
  clear h
  by_cases hq : 0 ≤ n
  · rw [show decide (0 ≤ n) = true from decide_eq_true hq] at HD HC
    have HS := Lib.hid (show armD d n = { d with armed := true, left := n } by unfold armD; rw [decide_eq_true hq])
    go_enter Try.func25, Try.ntmps25
    go_wp2
    go_end0
    exact DPost.turned (by rw [HS.out]; exact HD.out) rfl HC.out
  · rw [show decide (0 ≤ n) = false from decide_eq_false hq] at HD HC
    have HS := Lib.hid (show armD d n = { d with armed := false, left := n } by unfold armD; rw [decide_eq_false hq])
    go_enter Try.func25, Try.ntmps25
    go_wp2
    go_end0
    exact DPost.turned (by rw [HS.out]; exact HD.out) rfl HC.out
#print axioms arm_any
end Go.Proofs.Ytjibfoplihaabaa
