/-
  law06.Sector; disk.New; (*disk.Disk).Dead, Len, Ops, has, open, dies, walked. (*disk.Disk).finish, walked.
-/
import Derived.Test.YtlbdopcchoklhaaGreatMh19
namespace Go.Proofs.YtlbdopcchoklhaaGreat
open Go.RowKit
set_option linter.unusedVariables false
set_option maxRecDepth 100000

/-! ### Sector -/
/-- A new row of bytes. -/
def NewSec (k : Nat) (z : Nat → Nat) (w : World) (e : Ending) (w' : World) : Prop := ∃ b, e = .returned (.slice (some ⟨b, 0, none⟩) k k) ∧ w'.rowIs b /-t-/5 k (fun i => .int .u8 (z i : Int)) ∧ w.heap.size ≤ b ∧ Ch (fun _ => False) w w'
theorem rowIs_rowV {w : World} {b k : Nat} {z : Nat → Nat} (h : w.rowIs b /-t-/5 k (fun i => .int .u8 (z i : Int))) (hk : k ≤ 65536) (hz : Bytes k z) : RowV w (.slice (some ⟨b, 0, none⟩) k k) k z :=
  ⟨_, _, rfl, by omega, fun _ => ⟨b, 0, rfl, fun c hc => ⟨by rw [Nat.zero_add]; exact h.cell hc, hz c hc⟩⟩⟩
/-! ### New -/
def dev0 (n : Nat) : Dev := { n := n, has := fun _ _ => 0, lost := fun _ => false, drops := fun _ => 0, miss := fun _ => [], W := [], dead := false, armed := false, left := 0, ops := 0 }
def sec0 : Array Value := (bytesL 256 (fun _ => 0)).toArray ++ #[.bool false, .int .i64 0, .slice none 0 0]
theorem info_sector : (Tryz.prog.info? 129).map (fun i => (i.zero, i.size, i.bytes)) = some (some (.agg sec0), 259, 296) := by kernel_rfl
theorem sec0_get {j : Nat} (h : j < 259) (d : Dev) (m : Nat → Value) (a : Nat) (h1 : d.has a j = 0) (h2 : d.lost a = false) (h3 : d.drops a = 0) (h4 : m a = .slice none 0 0) : sec0[j]? = some (secV d m a j) := by
  unfold sec0 secV
  by_cases q : j < 256
  · rw [Array.getElem?_append_left (by simpa [bytesL_len] using q), if_pos q, h1]
    have := bytesL_get (z := fun _ => 0) q
    simpa using this
  · rw [Array.getElem?_append_right (by simp [bytesL_len]; omega), if_neg q]
    rw [show ((bytesL 256 fun _ => 0).toArray).size = 256 by simp [bytesL_len]]
    by_cases q1 : j = 256
    · subst q1; rw [if_pos rfl, h2]; rfl
    · by_cases q2 : j = 257
      · subst q2; rw [if_neg q1, if_pos rfl, h3]; rfl
      · obtain rfl : j = 258 := by omega
        rw [if_neg q1, if_neg q2, h4]; rfl
theorem underlying_sectors : Tryz.prog.underlying 89 = some (.slice 129) := by kernel_rfl
theorem made_sec (w : World) (n m : Nat) (hm : m = n * 259) : (w.alloc (.cells (madeCells sec0 m) 129)).rowIs w.heap.size 129 (n * 259) (fun i => secV (dev0 n) (fun _ => .slice none 0 0) (i / 259) (i % 259)) := by
  subst hm
  have hs : sec0.size = 259 := by unfold sec0; simp [bytesL_len]
  have := World.rowIs_alloc w (madeCells sec0 (n * 259)) 129 (fun i => secV (dev0 n) (fun _ => .slice none 0 0) (i / 259) (i % 259)) fun i hi => by
    rw [size_madeCells] at hi
    have hj : i % 259 < 259 := Nat.mod_lt _ (by omega)
    unfold madeCells
    rw [hs]
    have h2 := sec0_get hj (dev0 n) (fun _ => .slice none 0 0) (i / 259) rfl rfl rfl rfl
    simp [hi]
    rw [getElem!_def, h2]
  rwa [size_madeCells] at this
set_option maxHeartbeats 400000 in
theorem new_any (n : Nat) (w : World) (h : 1 ≤ n) (h2 : n ≤ 4096) : Calls Tryz.prog 46 #[.int .i64 (n : Int)] w fun e w' => ∃ p, e = .returned (.tuple #[.pointer (some ⟨p.B, 0, none⟩), .int .i64 0]) ∧ DevIs w.heap.size w' p (dev0 n) ∧ Ch (fun _ => False) w w' := by
  have hmk : ∀ w : World, (Instr.makeSlice 89 (.int .i64 (n : Int)) (.int .i64 (n : Int))).run Tryz.prog w = .ok (.slice (some ⟨w.heap.size, 0, none⟩) n n) (w.alloc (.cells (madeCells sec0 (n * 259)) 129)) := fun w => by
    obtain ⟨i0, hi, hz0, hz1, hz2⟩ := info_parts info_sector
    have := run_make (P := Tryz.prog) w 89 129 i0 _ underlying_sectors hi hz0 .i64 .i64 (n : Int) (n : Int) (by omega) (by omega) (by rw [hz2]; omega) (by omega)
    rw [hz1] at this
    exact this
  have HR := Lib.hid (made_sec w n (n * 259) rfl)
  have HC := Lib.hid ((Ch.refl (fun _ => False) w).alloc (madeCells sec0 (n * 259)) 129)
  obtain ⟨B, hB⟩ : ∃ B, B = w.heap.size := ⟨_, rfl⟩
  obtain ⟨w1, hw1⟩ : ∃ w1, w1 = w.alloc (.cells (madeCells sec0 (n * 259)) 129) := ⟨_, rfl⟩
  have HS := Lib.hid (show w1.heap.size = w.heap.size + 1 by rw [hw1]; simp)
  rw [← hB, ← hw1] at HR
  rw [← hw1] at HC
  have hmk1 := hmk w
  rw [← hB, ← hw1] at hmk1
  have HB := Lib.hid hB
  clear hmk hB hw1
  go_enter Tryz.func46, Tryz.ntmps46
  go_wp2
  go_ret2
  refine ⟨⟨w1.heap.size, B, .slice none 0 0, fun _ => .slice none 0 0, n⟩, rfl, ?_, HC.out.alloc _ _⟩
  refine ⟨heap_alloc_new _ _, SecsIs.of_row (HR.out.alloc _), World.ownsRow_nil _ _ _ _, fun a _ => Or.inl ⟨rfl, rfl⟩, fun a b _ _ i hi => (by cases hi), (by show w.heap.size ≤ w1.heap.size; rw [HS.out]; omega), (by show w.heap.size ≤ B; rw [HB.out]; exact Nat.le_refl _), fun a _ i hi => (by cases hi), fun a c _ _ => (by decide : 0 < 256), fun x hx => (by cases hx), fun a _ x hx => (by cases hx), ⟨h, h2⟩, ⟨(by decide : (-9223372036854775808 : Int) ≤ 0), (by decide : (0 : Int) ≤ 9223372036854775807)⟩⟩
/-! ### what is asked -/
set_option maxHeartbeats 400000 in
theorem dead_any (base : Nat) (p : Ph) (d : Dev) (w : World) (h : DevIs base w p d) : Calls Tryz.prog 52 #[.pointer (some ⟨p.B, 0, none⟩)] w fun e w' => e = .returned (.bool d.dead) ∧ w = w' := by
  have c2 : w.cell? ⟨p.B, 2, none⟩ = some (.bool d.dead) := h.cellB 2
  obtain ⟨B, G, V, m, cG⟩ := p
  clear h
  go_enter Tryz.func52, Tryz.ntmps52
  go_wp2
  go_ret
  exact ⟨rfl, rfl⟩
set_option maxHeartbeats 400000 in
theorem len_any (base : Nat) (p : Ph) (d : Dev) (w : World) (h : DevIs base w p d) : Calls Tryz.prog 88 #[.pointer (some ⟨p.B, 0, none⟩)] w fun e w' => e = .returned (.int .i64 (d.n : Int)) ∧ w = w' := by
  have c0 : w.cell? ⟨p.B, 0, none⟩ = some (.slice (some ⟨p.G, 0, none⟩) d.n p.c) := h.cellB 0
  obtain ⟨B, G, V, m, cG⟩ := p
  clear h
  go_enter Tryz.func88, Tryz.ntmps88
  go_wp2
  go_ret
  exact ⟨rfl, rfl⟩
set_option maxHeartbeats 400000 in
theorem ops_any (base : Nat) (p : Ph) (d : Dev) (w : World) (h : DevIs base w p d) : Calls Tryz.prog 25 #[.pointer (some ⟨p.B, 0, none⟩)] w fun e w' => e = .returned (.int .i64 (d.ops : Int)) ∧ w = w' := by
  have c5 : w.cell? ⟨p.B, 5, none⟩ = some (.int .i64 (d.ops : Int)) := h.cellB 5
  obtain ⟨B, G, V, m, cG⟩ := p
  clear h
  go_enter Tryz.func25, Tryz.ntmps25
  go_wp2
  go_ret
  exact ⟨rfl, rfl⟩
/-- Is there a sector a? -/
def hasB (d : Dev) (a : Int) : Bool := decide (0 ≤ a ∧ a < d.n)
set_option maxHeartbeats 400000 in
theorem dhas_any (base : Nat) (p : Ph) (d : Dev) (a : Int) (w : World) (h : DevIs base w p d) : Calls Tryz.prog 50 #[.pointer (some ⟨p.B, 0, none⟩), .int .i64 a] w fun e w' => e = .returned (.bool (hasB d a)) ∧ w = w' := by
  have HL := Lib.hid (len_any base p d w h)
  obtain ⟨B, G, V, m, cG⟩ := p
  clear h
  by_cases h1 : 0 ≤ a
  · by_cases h2 : a < d.n
    · have HS := Lib.hid (show hasB d a = true from decide_eq_true ⟨h1, h2⟩)
      go_enter Tryz.func50, Tryz.ntmps50
      go_wp2_with fail
      refine HL.out.mono ?_
      rintro e w1 ⟨rfl, rfl⟩
      go_wp2
      go_ret
      exact ⟨ret_bool HS.out.symm, rfl⟩
    · have HS := Lib.hid (show hasB d a = false from decide_eq_false fun q => h2 q.2)
      go_enter Tryz.func50, Tryz.ntmps50
      go_wp2_with fail
      refine HL.out.mono ?_
      rintro e w1 ⟨rfl, rfl⟩
      go_wp2
      go_ret
      exact ⟨ret_bool (by rw [HS.out]; exact decide_eq_false (by omega)), rfl⟩
  · have HS := Lib.hid (show hasB d a = false from decide_eq_false fun q => h1 q.1)
    go_enter Tryz.func50, Tryz.ntmps50
    go_wp2
    go_ret
    exact ⟨ret_bool HS.out.symm, rfl⟩
/-- What is wrong with any use of the sector a. -/
def openE (d : Dev) (a : Int) : Int := if d.dead then 21 else if hasB d a then 0 else 3
set_option maxHeartbeats 400000 in
theorem open_any (base : Nat) (p : Ph) (d : Dev) (a : Int) (w : World) (h : DevIs base w p d) : Calls Tryz.prog 83 #[.pointer (some ⟨p.B, 0, none⟩), .int .i64 a] w fun e w' => e = .returned (.int .i64 (openE d a)) ∧ w = w' := by
  have HD := Lib.hid (dead_any base p d w h)
  have HH := Lib.hid (dhas_any base p d a w h)
  obtain ⟨B, G, V, m, cG⟩ := p
  clear h
  cases hd : d.dead
  · rw [hd] at HD
    cases hh : hasB d a
    · rw [hh] at HH
      have HS := Lib.hid (show openE d a = 3 by unfold openE; rw [hd, hh]; rfl)
      clear hd hh
      go_enter Tryz.func83, Tryz.ntmps83
      go_wp2_with fail
      refine HD.out.mono ?_
      rintro e w1 ⟨rfl, rfl⟩
      go_wp2_with fail
      refine HH.out.mono ?_
      rintro e w1 ⟨rfl, rfl⟩
      go_wp2
      go_ret
      exact ⟨ret_int HS.out.symm, rfl⟩
    · rw [hh] at HH
      have HS := Lib.hid (show openE d a = 0 by unfold openE; rw [hd, hh]; rfl)
      clear hd hh
      go_enter Tryz.func83, Tryz.ntmps83
      go_wp2_with fail
      refine HD.out.mono ?_
      rintro e w1 ⟨rfl, rfl⟩
      go_wp2_with fail
      refine HH.out.mono ?_
      rintro e w1 ⟨rfl, rfl⟩
      go_wp2
      go_ret
      exact ⟨ret_int HS.out.symm, rfl⟩
  · rw [hd] at HD
    have HS := Lib.hid (show openE d a = 21 by unfold openE; rw [hd]; rfl)
    clear hd
    go_enter Tryz.func83, Tryz.ntmps83
    go_wp2_with fail
    refine HD.out.mono ?_
    rintro e w1 ⟨rfl, rfl⟩
    go_wp2
    go_ret
    exact ⟨ret_int HS.out.symm, rfl⟩
/-! ### what turns a field -/
section
variable {base : Nat} {w : World} {p : Ph} {d : Dev}
theorem chB (h : DevIs base w p d) (i : Nat) (v : Value) : Ch (fun j => j = p.B ∨ j = p.G) w (w.setCell ⟨p.B, i, none⟩ v) := Ch.setCell (S := fun j => j = p.B ∨ j = p.G) (Ch.refl _ w) (p := ⟨p.B, i, none⟩) (Or.inl (Or.inl rfl)) v
theorem chBF {w' : World} (h : Ch (fun j => j = p.B ∨ j = p.G) w w') : Ch (Foot p d) w w' := h.mono fun i _ hi => hi.elim (fun e => Or.inl e) (fun e => Or.inr (Or.inl e))
theorem secB (h : DevIs base w p d) (i : Nat) (v : Value) : SecsIs (w.setCell ⟨p.B, i, none⟩ v) p.G 129 (d.n * 259) (fun i => secV d p.m (i / 259) (i % 259)) := h.sec.setOther (a := ⟨p.B, i, none⟩) h.BG.symm v
theorem DevIs.setDead (h : DevIs base w p d) (b : Bool) : DevIs base (w.setCell ⟨p.B, 2, none⟩ (.bool b)) p { d with dead := b } := h.turn (d' := { d with dead := b }) (chB h 2 _) (blk_set h.blk _) (secB h 2 _) rfl rfl rfl h.byt h.lf
theorem DevIs.setLeft (h : DevIs base w p d) (x : Int) (hx : -9223372036854775808 ≤ x ∧ x ≤ 9223372036854775807) : DevIs base (w.setCell ⟨p.B, 4, none⟩ (.int .i64 x)) p { d with left := x } := h.turn (d' := { d with left := x }) (chB h 4 _) (blk_set h.blk _) (secB h 4 _) rfl rfl rfl h.byt hx
theorem DevIs.setOps (h : DevIs base w p d) (x : Nat) : DevIs base (w.setCell ⟨p.B, 5, none⟩ (.int .i64 (x : Int))) p { d with ops := x } := h.turn (d' := { d with ops := x }) (chB h 5 _) (blk_set h.blk _) (secB h 5 _) rfl rfl rfl h.byt h.lf
end
/-- Does it die now? -/
def diesB (d : Dev) : Bool := d.armed && decide (d.left ≤ 0)
def diesD (d : Dev) : Dev := if d.armed = true then if 0 < d.left then { d with left := d.left - 1 } else { d with dead := true } else d
set_option maxHeartbeats 400000 in
theorem dies_any (base : Nat) (p : Ph) (d : Dev) (w : World) (h : DevIs base w p d) : Calls Tryz.prog 84 #[.pointer (some ⟨p.B, 0, none⟩)] w fun e w' => e = .returned (.bool (diesB d)) ∧ DevIs base w' p (diesD d) ∧ Ch (Foot p d) w w' := by
  have c2 : w.cell? ⟨p.B, 2, none⟩ = some (.bool d.dead) := h.cellB 2
  have c3 : w.cell? ⟨p.B, 3, none⟩ = some (.bool d.armed) := h.cellB 3
  have c4 : w.cell? ⟨p.B, 4, none⟩ = some (.int .i64 d.left) := h.cellB 4
  have f2 := h.frB 2
  have f4 := h.frB 4
  have HH := Lib.hid h
  have hl := h.lf
  obtain ⟨B, G, V, m, cG⟩ := p
  clear h
  cases ha : d.armed
  · rw [ha] at c3
    have HS := Lib.hid (show diesB d = false ∧ diesD d = d by unfold diesB diesD; rw [ha]; exact ⟨rfl, rfl⟩)
    clear ha
    go_enter Tryz.func84, Tryz.ntmps84
    go_wp2
    go_ret
    exact ⟨ret_bool HS.out.1.symm, by rw [HS.out.2]; exact HH.out, Ch.refl _ _⟩
  · rw [ha] at c3
    by_cases hq : 0 < d.left
    · have HS := Lib.hid (show diesB d = false ∧ diesD d = { d with left := d.left - 1 } by
        unfold diesB diesD
        rw [ha]
        exact ⟨by simp; omega, by simp [hq]⟩)
      have HD := Lib.hid (HH.out.setLeft (d.left - 1) (by omega))
      have HC := Lib.hid (chBF (d := d) (chB HH.out 4 (.int .i64 (d.left - 1))))
      clear ha
      go_enter Tryz.func84, Tryz.ntmps84
      go_wp2
      go_ret
      exact ⟨ret_bool HS.out.1.symm, by rw [HS.out.2]; exact HD.out, HC.out⟩
    · have HS := Lib.hid (show diesB d = true ∧ diesD d = { d with dead := true } by
        unfold diesB diesD
        rw [ha]
        exact ⟨by simp; omega, by simp [hq]⟩)
      have HD := Lib.hid (HH.out.setDead true)
      have HC := Lib.hid (chBF (d := d) (chB HH.out 2 (.bool true)))
      clear ha
      go_enter Tryz.func84, Tryz.ntmps84
      go_wp2
      go_ret
      exact ⟨ret_bool HS.out.1.symm, by rw [HS.out.2]; exact HD.out, HC.out⟩
def armD (d : Dev) (n : Int) : Dev := { d with armed := decide (0 ≤ n), left := n }
end Go.Proofs.YtlbdopcchoklhaaGreat
namespace Go.Proofs.YtlbdopcchoklhaaGreat
open Go.RowKit
set_option linter.unusedVariables false
set_option maxRecDepth 100000

theorem info_arr (z : Nat → Nat) : (Tryz.prog.info? 93).map (·.size) = some (bytesL 256 z).length := by rw [bytesL_len]; kernel_rfl
theorem under_arr : Tryz.prog.underlying 93 = some (.array 256 /-t-/5) := by kernel_rfl
theorem info_wt (x : Wt) : (Tryz.prog.info? 95).map (·.size) = some (wtC x).length := by rw [wtC_len]; kernel_rfl
theorem under_wt : ∃ d, Tryz.prog.underlying 95 = some d ∧ TypeDesc.isRow d = true := ⟨_, Tryz.underlying95, rfl⟩
def finD (d : Dev) (x : Wt) : Dev := { d with has := up d.has x.pl x.z, lost := up d.lost x.pl false }
theorem alloc_cell (w : World) (c : Array Value) (t : TypeId) (i : Nat) : (w.alloc (.cells c t)).cell? ⟨w.heap.size, i, none⟩ = c[i]? := blk_cell (heap_alloc_new w _)
theorem arr_there {w : World} {b o n : Nat} {c : Array Value} {t : TypeId} (h : w.heap[b]? = some (.cells c t (0, 0))) (hn : o + n ≤ c.size) : w.there b o n := fun j hj => by
  rw [blk_cell h]
  exact ⟨by simp; omega, blk_frozen h⟩
theorem setCells_ch (S : Nat → Prop) (b : Nat) (hb : S b) : ∀ (vs : List Value) (o : Nat) (w : World), Ch S w (w.setCells b o vs)
  | [], _, w => Ch.refl _ w
  | v :: r, o, w => ((Ch.refl S w).setCell (p := ⟨b, o, none⟩) (Or.inl hb) v).trans (setCells_ch S b hb r (o + 1) _)
theorem DevIs.finish {base : Nat} {w : World} {p : Ph} {d : Dev} (h : DevIs base w p d) (x : Wt) (hx : x.pl < d.n) (hz : Bytes 256 x.z) : DevIs base ((w.setCells p.G (x.pl * 259) (bytesL 256 x.z)).setCell ⟨p.G, x.pl * 259 + 256, none⟩ (.bool false)) p (finD d x) := by
  have hk : Ch (fun j => j = p.B ∨ j = p.G) w ((w.setCells p.G (x.pl * 259) (bytesL 256 x.z)).setCell ⟨p.G, x.pl * 259 + 256, none⟩ (.bool false)) := (setCells_ch _ p.G (Or.inr rfl) _ _ w).setCell (p := ⟨p.G, x.pl * 259 + 256, none⟩) (Or.inl (Or.inr rfl)) _
  have hk2 : Ch (fun j => j = p.G) w ((w.setCells p.G (x.pl * 259) (bytesL 256 x.z)).setCell ⟨p.G, x.pl * 259 + 256, none⟩ (.bool false)) := Ch.setCell (S := fun j => j = p.G) (setCells_ch (fun j => j = p.G) p.G rfl _ _ w) (p := ⟨p.G, x.pl * 259 + 256, none⟩) (Or.inl rfl) _
  refine h.turn (d' := finD d x) hk ((hk2.block _ (blk_lt h.blk) h.BG).trans h.blk) ?_ rfl rfl rfl ?_ h.lf
  · refine ((secsIs_setCells (bytesL 256 x.z) (x.pl * 259) w _ h.sec).set (x.pl * 259 + 256) (.bool false)).congr fun i hi => ?_
    have hlt := Nat.mod_lt i (show 0 < 259 by omega)
    have hdm := Nat.div_add_mod i 259
    rw [bytesL_len]
    by_cases q : i / 259 = x.pl
    · by_cases q1 : i % 259 < 256
      · rw [if_neg (by omega), if_pos (by omega), show i - x.pl * 259 = i % 259 by omega, bytesL_get q1]
        unfold secV
        rw [if_pos q1, q]
        show _ = Value.int .u8 (up d.has x.pl x.z x.pl (i % 259) : Int)
        rw [up_same]
        rfl
      · by_cases q2 : i % 259 = 256
        · rw [if_pos (by omega)]
          unfold secV
          rw [if_neg q1, if_pos q2, q]
          show _ = Value.bool (up d.lost x.pl false x.pl)
          rw [up_same]
        · rw [if_neg (by omega), if_neg (by omega)]
          unfold secV
          rw [if_neg q1, if_neg q2, if_neg q1, if_neg q2]
          rfl
    · rw [if_neg (by omega), if_neg (by omega)]
      unfold secV
      show _ = if i % 259 < 256 then Value.int .u8 (up d.has x.pl x.z (i / 259) (i % 259) : Int) else if i % 259 = 256 then .bool (up d.lost x.pl false (i / 259)) else _
      rw [up_other _ _ q, up_other _ _ q]
      rfl
  · intro a c ha hc
    show up d.has x.pl x.z a c < 256
    by_cases q : a = x.pl
    · rw [q, up_same]; exact hz c hc
    · rw [up_other _ _ q]; exact h.byt a c ha hc
set_option maxHeartbeats 800000 in
set_option maxRecDepth 100000 in
theorem finish_any (base : Nat) (p : Ph) (d : Dev) (x : Wt) (w : World) (h : DevIs base w p d) (hx : x.pl < d.n) (hz : Bytes 256 x.z) :
    Calls Tryz.prog 55 #[.pointer (some ⟨p.B, 0, none⟩), .agg (wtC x).toArray] w fun e w' => e = .returned (.tuple #[]) ∧ DevIs base w' p (finD d x) ∧ Ch (Foot p d) w w' := by
  obtain ⟨w1, hw1⟩ : ∃ w1, w1 = w.alloc (.cells (wtC x).toArray 95) := ⟨_, rfl⟩
  obtain ⟨H, hH⟩ : ∃ H, H = w.heap.size := ⟨_, rfl⟩
  have HC := Lib.hid (show Ch (Foot p d) w w1 by rw [hw1]; exact (Ch.refl _ w).alloc _ _)
  have h1 : DevIs base w1 p d := by rw [hw1]; exact h.gr ((Ch.refl _ w).alloc _ _)
  have c0 : w1.cell? ⟨p.B, 0, none⟩ = some (.slice (some ⟨p.G, 0, none⟩) d.n p.c) := h1.cellB 0
  have x0 : w1.cell? ⟨H, 0, none⟩ = some (.int .i64 (x.pl : Int)) := by rw [hw1, hH, alloc_cell]; simp [wtC_zero]
  have hrg : w1.rangeAt H 1 (bytesL 256 x.z) := fun j v hv => by
    have hj : j < 256 := by
      by_cases q : j < 256
      · exact q
      · rw [bytesL_none q] at hv; cases hv
    rw [hw1, hH, alloc_cell, Nat.add_comm, List.getElem?_toArray, wtC_succ x hj, ← hv, bytesL_get hj]
  have HL : Hid (∀ n, (loadVar 93 ⟨H, 1, none⟩).run Tryz.prog (w1.drewN n) = .ok (.agg (bytesL 256 x.z).toArray) (w1.drewN n)) := fun n => run_loadVar_mid (w1.drewN n) H 1 _ _ _ hrg under_arr rfl (info_arr x.z)
  obtain ⟨cs, hcs, hcz, _⟩ := h1.sec
  have hi259 : x.pl * 259 + 259 ≤ d.n * 259 := by have := Nat.mul_le_mul_right 259 (show x.pl + 1 ≤ d.n from hx); omega
  have HS : Hid (∀ n, (storeVar 93 ⟨p.G, x.pl * 259, none⟩ (.agg (bytesL 256 x.z).toArray)).run Tryz.prog (w1.drewN n) = .ok () ((w1.drewN n).setCells p.G (x.pl * 259) (bytesL 256 x.z))) := fun n => by
    have := run_storeVar_mid (P := Tryz.prog) (w1.drewN n) p.G (x.pl * 259) 93 (bytesL 256 x.z).toArray (arr_there (w := w1.drewN n) hcs (by simp [bytesL_len]; omega)) (by rw [List.size_toArray]; exact info_arr x.z) (all_oneCell_toArray bytesL_one)
    simpa using this
  have HD : Hid (∀ n, DevIs base (((w1.drewN n).setCells p.G (x.pl * 259) (bytesL 256 x.z)).setCell ⟨p.G, x.pl * 259 + 256, none⟩ (.bool false)) p (finD d x)) := fun n => (h1.gr ((Ch.refl _ w1).drewN n)).finish x hx hz
  have HC2 : Hid (∀ n, Ch (Foot p d) w (((w1.drewN n).setCells p.G (x.pl * 259) (bytesL 256 x.z)).setCell ⟨p.G, x.pl * 259 + 256, none⟩ (.bool false))) := fun n =>
    ((HC.out.drewN n).trans (setCells_ch _ p.G (Or.inr (Or.inl rfl)) _ _ _)).setCell (p := ⟨p.G, x.pl * 259 + 256, none⟩) (Or.inl (Or.inr (Or.inl rfl))) _
  have HF : Hid (∀ n, ((w1.drewN n).setCells p.G (x.pl * 259) (bytesL 256 x.z)).cell? ⟨p.G, x.pl * 259 + 256, none⟩ = some (.bool (d.lost x.pl)) ∧ ((w1.drewN n).setCells p.G (x.pl * 259) (bytesL 256 x.z)).frozen? ⟨p.G, x.pl * 259 + 256, none⟩ = false) := fun n => by
    rw [World.cell?_setCells_out _ _ _ _ _ (fun _ _ => Or.inr (by rw [bytesL_len]; exact Nat.le_refl _)), World.frozen?_setCells]
    exact ⟨h1.cellG hx (by omega : 256 < 259), h1.frG _⟩
  have i1 : (0 : Int) ≤ (x.pl : Int) := Int.natCast_nonneg _
  have i2 : (x.pl : Int) < (d.n : Int) := by omega
  have HW := Lib.hid hw1.symm
  have HN := Lib.hid hH.symm
  obtain ⟨B, G, V, m, cG⟩ := p
  clear h h1 hcs hcz hi259 hrg hw1 hH
  go_enter Tryz.func55, Tryz.ntmps55
  go_wp2_with ((with_reducible refine wpList_same ?_); refine wpList_boxing w w1 rfl _ (.tmp 1) rfl (wtC x).toArray H rfl HN.out HW.out ?_)
  go_quiet (fail)
  have c3 := (HF.out nq).1
  have f3 := (HF.out nq).2
  have HSn := Lib.hid (HS.out nq)
  have HDn := Lib.hid (HD.out nq)
  have HCn := Lib.hid (HC2.out nq)
  obtain ⟨w3, hw3⟩ : ∃ w3, w3 = (w1.drewN nq).setCells G (x.pl * 259) (bytesL 256 x.z) := ⟨_, rfl⟩
  change Hid (_ = Result.ok () ((w1.drewN nq).setCells G (x.pl * 259) (bytesL 256 x.z))) at HSn
  change Hid (DevIs base (((w1.drewN nq).setCells G (x.pl * 259) (bytesL 256 x.z)).setCell _ _) _ _) at HDn
  change Hid (Ch _ w (((w1.drewN nq).setCells G (x.pl * 259) (bytesL 256 x.z)).setCell _ _)) at HCn
  change ((w1.drewN nq).setCells G (x.pl * 259) (bytesL 256 x.z)).cell? ⟨G, x.pl * 259 + 256, none⟩ = _ at c3
  change ((w1.drewN nq).setCells G (x.pl * 259) (bytesL 256 x.z)).frozen? ⟨G, x.pl * 259 + 256, none⟩ = _ at f3
  rw [← hw3] at HSn HDn HCn c3 f3
  clear hw3 HS HD HC2 HF
  go_wp2_with ((with_reducible refine wpList_same ?_); first | refine wpList_loading (w1.drewN nq) rfl _ (.tmp 14) rfl (.agg (bytesL 256 x.z).toArray) ⟨H, 1, none⟩ rfl (HL.out nq) ?_ | refine wpList_storing (w1.drewN nq) w3 rfl _ (.tmp 17) (.tmp 15) rfl (.agg (bytesL 256 x.z).toArray) ⟨G, x.pl * 259, none⟩ rfl rfl HSn.out ?_)
  go_end0
  exact ⟨rfl, HDn.out, HCn.out⟩
end Go.Proofs.YtlbdopcchoklhaaGreat
