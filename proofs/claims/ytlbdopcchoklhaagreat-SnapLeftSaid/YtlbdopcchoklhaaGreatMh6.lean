/-
  crc.step, eightSteps, More, Sum and lay, walked. bytes.Equal, walked. crc.Seal, walked. The document's differ, Sum, Same, Seal and Whole (quartermasterref04), walked.
-/
import Derived.Test.YtlbdopcchoklhaaGreatMh1
import Derived.Test.YtlbdopcchoklhaaGreatMh5
import Derived.Deep.WholeRow
import Derived.Laws.BitsAllLaws
import Derived.Deep.DeepCutAuto
namespace Go.Proofs.YtlbdopcchoklhaaGreat
open Go.RowKit
set_option linter.unusedVariables false
set_option maxRecDepth 100000

theorem st_odd {r : Nat} (h : r < 4294967296) (o : r % 2 = 1) : bits .xor .u32 ((r : Int) / 2) 2197175160 = (Crc.st r : Int) := by
  have e := u32_xor_nat (r / 2) 2197175160 (by omega) (by omega)
  unfold Crc.st
  rw [if_pos o, ← e]
  rfl
theorem st_even {r : Nat} (o : ¬ r % 2 = 1) : (r : Int) / 2 = (Crc.st r : Int) := by
  unfold Crc.st; rw [if_neg o]; omega
theorem st_test {r : Nat} (h : r < 4294967296) : bits .and .u32 (r : Int) 1 = ((r % 2 : Nat) : Int) := by
  have e := u32_and_nat r 1 h (by omega)
  rw [nat_mask1] at e
  exact e
set_option maxHeartbeats 400000 in
theorem step_any (r : Nat) (h : r < 4294967296) (w : World) : Calls Tryz.prog 156 #[.int .u32 (r : Int)] w fun e w' => e = .returned (.int .u32 (Crc.st r : Int)) ∧ w = w' := by
  by_cases o : r % 2 = 1
  · have HE := Lib.hid (st_odd h o)
    have t1 : (bits .and .u32 (r : Int) 1 == 1) = true := by rw [st_test h, o]; rfl
    clear o h
    go_enter Tryz.func156, Tryz.ntmps156
    go_wp2
    go_ret
    exact ⟨ret_int HE.out, rfl⟩
  · have HE := Lib.hid (st_even o)
    have t1 : (bits .and .u32 (r : Int) 1 == 1) = false := by
      rw [st_test h, show r % 2 = 0 by omega]; rfl
    clear o h
    go_enter Tryz.func156, Tryz.ntmps156
    go_wp2
    go_ret
    exact ⟨ret_int HE.out, rfl⟩
/-! ### eightSteps -/
def zt : Array Value := Array.replicate 256 (.int .u32 0)
theorem zt_size : zt.size = 256 := by simp [zt]
theorem zt_run (w : World) : (zeroValue 166).run Tryz.prog w = .ok (.agg zt) w := by kernel_rfl
theorem zt_info : (Tryz.prog.info? 166).map (·.size) = some 256 := by kernel_rfl
def tn (k j : Nat) : Nat := if j < k then Crc.it 8 j else 0
def tv (k j : Nat) : Value := .int .u32 (tn k j : Int)
def tab : Array Value := (Array.range 256).map (tv 256)
theorem tab_size : tab.size = 256 := by simp [tab]
theorem tab_one : tab.all (·.oneCell') = true := by
  rw [Array.all_eq_true_iff_forall_mem]
  intro v hv
  unfold tab at hv
  obtain ⟨j, _, rfl⟩ := Array.mem_map.1 hv
  rfl
theorem tab_at {j : Nat} (h : j < 256) : tab[j]? = some (.int .u32 (Crc.it 8 j : Int)) := by
  unfold tab; simp [h, tv, tn]
theorem tn_step (k j : Nat) : tn (k + 1) j = if j = k then Crc.it 8 k else tn k j := by
  unfold tn
  by_cases e : j = k
  · subst e; rw [if_pos (by omega), if_pos rfl]
  · rw [if_neg e]
    by_cases q : j < k
    · rw [if_pos (by omega), if_pos q]
    · rw [if_neg (by omega), if_neg q]
theorem tv_step (k j : Nat) : tv (k + 1) j = if j = k then .int .u32 (Crc.it 8 k : Int) else tv k j := by
  unfold tv; rw [tn_step]; split <;> rfl
theorem rowIs_arr {w : World} {g t n : Nat} {f : Nat → Value} (h : w.rowIs g t n f) : w.heap[g]? = some (.cells ((Array.range n).map f) t (0, 0)) := by
  obtain ⟨c, hc, hs, hf⟩ := h
  have e : c = (Array.range n).map f := by
    refine Array.ext_getElem? fun i => ?_
    by_cases hi : i < n
    · rw [hf i hi]; simp [hi]
    · rw [Array.getElem?_eq_none (by omega), Array.getElem?_eq_none (by simp; omega)]
  rw [← e]; exact hc
structure EightRel (w : World) (k : Nat) (wr : World) : Prop where
  row : wr.rowIs (w.heap.size + 1) 166 256 (tv k)
  old : wr.heap[w.heap.size]? = some (.cells zt 166 (0, 0))
  ch : Ch (fun _ => False) w wr
theorem zt_get (i : Nat) (h : i < zt.size) : zt[i]? = some (tv 0 i) := by
  rw [zt_size] at h
  simp [zt, h, tv, tn]
theorem EightRel.start (w : World) : EightRel w 0 ((w.alloc (.cells zt 166)).alloc (.cells zt 166)) := by
  have h1 := World.rowIs_alloc (w.alloc (.cells zt 166)) zt 166 (tv 0) zt_get
  rw [zt_size, show (w.alloc (.cells zt 166)).heap.size = w.heap.size + 1 by simp] at h1
  exact ⟨h1, heap_alloc2_old _ _ _, ((Ch.refl _ w).alloc _ _).alloc _ _⟩
theorem EightRel.step {w wr : World} {k : Nat} (h : EightRel w k wr) (hk : k < 256) : EightRel w (k + 1) (wr.setCell ⟨w.heap.size + 1, k, none⟩ (.int .u32 (Crc.it 8 k : Int))) :=
  ⟨(h.row.set k _).congr fun j _ => (tv_step k j).symm, (heap_setCell_other wr ⟨w.heap.size + 1, k, none⟩ w.heap.size _ (by show w.heap.size ≠ w.heap.size + 1; omega)).trans h.old, h.ch.setCell (Or.inr (Nat.le_succ _)) _⟩
set_option maxHeartbeats 800000 in
set_option maxRecDepth 100000 in
theorem eight_any (w : World) : Calls Tryz.prog 146 #[] w (Ans (.agg tab) w) := by
  have hz := zt_run
  have H0 := Lib.hid (EightRel.start w)
  go_enter Tryz.func146, Tryz.ntmps146
  go_wp2
  go_loopw [2, 3, 4, 9] (fun _ _ i _ wr => ∃ k : Nat, k ≤ 256 ∧ i = .int .i64 k ∧ Hid (EightRel w k wr)) (fun _ _ i _ _ => 256 - (intOf i).toNat)
  case atStart => exact ⟨0, Nat.zero_le _, rfl, H0⟩
  case round =>
    obtain ⟨k, hk, rfl, HR⟩ := hrel
    by_cases hlt : k < 256
    · have tk : decide ((k : Int) < 256) = true := by simp; omega
      have c1 := HR.out.row.cell (i := k) hlt
      have z1 := HR.out.row.frozen k
      have HN := Lib.hid (HR.out.step hlt)
      have HL := Lib.hid (Crc.it_lt (show k < 4294967296 by omega))
      clear HR
      go_wp2
      go_loop [3, 9] (fun r j => ∃ i : Nat, i ≤ 8 ∧ j = .int .i64 i ∧ r = .int .u32 (Crc.it i k : Int)) (fun _ j => 8 - (intOf j).toNat)
      case atStart => exact ⟨0, Nat.zero_le _, rfl, rfl⟩
      case round =>
        obtain ⟨i, hi, rfl, rfl⟩ := hrel
        by_cases hlt2 : i < 8
        · go_wp2_with (go_at_call 156; refine (step_any _ (HL.out i) _).mono ?_; rintro e w' ⟨rfl, rfl⟩)
          go_round
          case rel => exact ⟨i + 1, by omega, by go_num, rfl⟩
          case measure => simp [intOf]; omega
        · obtain rfl : i = 8 := by omega
          go_wp2
          go_roundw
          case rel => exact ⟨k + 1, by omega, by go_num, HN⟩
          case measure => simp [intOf]; omega
    · obtain rfl : k = 256 := by omega
      have HR1 := Lib.hid (show wr.heap[w.heap.size + 1]? = some (.cells tab 166 (0, 0)) from rowIs_arr HR.out.row)
      have HR2 := Lib.hid HR.out.old
      have HC := Lib.hid HR.out.ch
      clear HR
      have HI1 := Lib.hid (show (Tryz.prog.info? 166).map (·.size) = some tab.size by rw [zt_info, tab_size])
      have HI2 := Lib.hid (show zt.size = tab.size by rw [zt_size, tab_size])
      clear hz
      go_wp2_with (first | (refine wpList_load_row (P := Tryz.prog) rfl 166 (.tmp 1) rfl (w.heap.size + 1) rfl 166 tab (0, 0) _ HR1.out Tryz.underlying166 rfl HI1.out ?_) | (refine wpList_store_row (P := Tryz.prog) rfl 166 (.tmp 0) (.tmp 18) rfl w.heap.size tab rfl rfl 166 zt HR2.out HI1.out HI2.out tab_one ?_))
      exact bodyPost_ret (v := .agg tab) (results_cell_row Tryz.results146 _ _ w.heap.size 166 tab (0, 0) _ rfl (setRow_heap _ _ _ _ _ _ HR2.out) Tryz.underlying166 rfl HI1.out) rfl ⟨rfl, HC.out.setRow (Or.inr (Nat.le_refl _)) _⟩
/-! ### More -/
theorem up_at {R x : Nat} (hR : R < 4294967296) (hx : x < 256) : bits .xor .u32 (Crc.it 8 ((R % 256) ^^^ x) : Int) ((R : Int) / 256) = (Crc.up R x : Int) := by
  have e := u32_xor_nat (Crc.it 8 ((R % 256) ^^^ x)) (R / 256) (Crc.it_lt (show (R % 256) ^^^ x < 4294967296 from Nat.lt_trans (Crc.xor_lt8 (Nat.mod_lt _ (by omega)) hx) (by omega)) 8) (by omega)
  rw [Crc.up_look, ← e]
  rfl
theorem look_at {R x : Nat} (hx : x < 256) : bits .xor .u8 ((R : Int) % 256) (x : Int) = (((R % 256) ^^^ x : Nat) : Int) := u8_xor_nat (R % 256) x (Nat.mod_lt _ (by omega)) hx
def r0 (s : Int) : Nat := (s % 4294967296).toNat ^^^ 4294967295
theorem not_at {r : Nat} (h : r < 4294967296) : bits .xor .u32 IntKind.u32.max (r : Int) = ((r ^^^ 4294967295 : Nat) : Int) := by
  have e := u32_xor_nat 4294967295 r (by omega) h
  rw [Nat.xor_comm] at e
  exact e
theorem r0_at (s : Int) : bits .xor .u32 IntKind.u32.max (s % 4294967296) = (r0 s : Int) := by
  have e : s % 4294967296 = ((s % 4294967296).toNat : Int) := by omega
  have h := not_at (r := (s % 4294967296).toNat) (by omega)
  rw [← e] at h
  exact h
theorem r0_lt (s : Int) : r0 s < 4294967296 := Crc.xor_lt (by omega) (by omega)
set_option maxHeartbeats 800000 in
set_option maxRecDepth 100000 in
theorem more_any (s : Int) (A : Option Addr) (n C : Nat) (z : Nat → Nat) (w : World) (h : RowV w (.slice A n C) n z) : Calls Tryz.prog 128 #[.int .i64 s, .slice A n C] w (Ans (.int .i64 ((Crc.reg (r0 s) z n ^^^ 4294967295 : Nat) : Int)) w) := by
  have hz := zt_run
  have HV := Lib.hid h
  obtain ⟨_, _, _, hn, _⟩ := id h
  have hn1 := hn.1
  clear h hn
  go_enter Tryz.func128, Tryz.ntmps128
  go_wp2_with fail
  refine (eight_any _).mono ?_
  rintro e w1 ⟨rfl, hch⟩
  have HC := Lib.hid hch
  clear hch
  have HI1 := Lib.hid (show (Tryz.prog.info? 166).map (·.size) = some tab.size by rw [zt_info, tab_size])
  have HI2 := Lib.hid (show zt.size = tab.size by rw [zt_size, tab_size])
  have HA := Lib.hid (heap_alloc_new w1 (.cells zt 166))
  go_wp2_with (refine wpList_store_row (P := Tryz.prog) rfl 166 (.tmp 5) (.tmp 9) rfl w1.heap.size tab rfl rfl 166 zt HA.out HI1.out HI2.out tab_one ?_)
  clear hz
  rw [World.setRow_alloc_new]
  have HV1 := Lib.hid (HV.out.gr (HC.out.alloc tab 166))
  have HB := Lib.hid HV.out.bytes
  have HT := Lib.hid (show ∀ J, J < 256 → (w1.alloc (.cells tab 166)).cell? ⟨w1.heap.size, J, none⟩ = some (.int .u32 (Crc.it 8 J : Int)) from fun J hJ => by
    rw [cell_of_row _ _ J tab 166 (0, 0) (heap_alloc_new w1 _)]; exact tab_at hJ)
  have HC1 := Lib.hid (HC.out.alloc tab 166)
  have HL := Lib.hid (r0_lt s)
  clear HC HV HA HI1 HI2
  obtain ⟨w2, hw2⟩ : ∃ w2, w2 = w1.alloc (.cells tab 166) := ⟨_, rfl⟩
  rw [← hw2] at HV1 HT HC1 ⊢
  clear hw2
  go_loop [6, 8, 15] (fun r _ i => ∃ k : Nat, k ≤ n ∧ i = .int .i64 k ∧ r = .int .u32 (Crc.reg (r0 s) z k : Int)) (fun _ _ i => n - (intOf i).toNat)
  case atStart => exact ⟨0, Nat.zero_le _, rfl, int_eq (r0_at s)⟩
  case round =>
    obtain ⟨k, hk, rfl, rfl⟩ := hrel
    have hRL := Crc.reg_lt HL.out k (fun i hi => HB.out i (by omega))
    obtain ⟨R, hR⟩ : ∃ R, R = Crc.reg (r0 s) z k := ⟨_, rfl⟩
    rw [← hR] at hRL ⊢
    by_cases hlt : k < n
    · have hx := HB.out k hlt
      have HU := Lib.hid (show bits .xor .u32 (Crc.it 8 ((R % 256) ^^^ z k) : Int) ((R : Int) / 256) = (Crc.reg (r0 s) z (k + 1) : Int) by rw [up_at hRL hx, hR]; rfl)
      have e1 := look_at (R := R) hx
      have hJ := Crc.xor_lt8 (Nat.mod_lt R (show 0 < 256 by omega)) hx
      have c1 := HT.out _ hJ
      obtain ⟨J, hj⟩ : ∃ J, J = (R % 256) ^^^ z k := ⟨_, rfl⟩
      rw [← hj] at HU e1 hJ c1
      obtain ⟨_, _, e2, _, h3⟩ := HV1.out
      injection e2 with e2 _ _
      subst e2
      obtain ⟨b', o', rfl, h4⟩ := h3 (by omega)
      have c2 := (h4 k hlt).1
      have tk : decide ((k : Int) < (n : Int)) = true := by simp; omega
      clear h3 h4 hR hj hRL
      go_wp2
      go_round
      case rel => exact ⟨k + 1, by omega, by go_num, int_eq HU.out⟩
      case measure => simp [intOf]; omega
    · obtain rfl : k = n := by omega
      have HE := Lib.hid (show wrap64 (bits .xor .u32 IntKind.u32.max (R : Int)) = ((Crc.reg (r0 s) z k ^^^ 4294967295 : Nat) : Int) by
        have hx := Crc.xor_lt hRL (show 4294967295 < 4294967296 by omega)
        rw [not_at hRL, hR, IntWalk.wrap64_in _ ⟨by omega, by rw [hR] at hx; omega⟩])
      clear hR hRL
      go_wp2
      go_ret
      exact ⟨ret_int HE.out, HC1.out⟩
theorem r0_none : r0 0 = 4294967295 := by decide
theorem sum_any (A : Option Addr) (n C : Nat) (z : Nat → Nat) (w : World) (h : RowV w (.slice A n C) n z) : Calls Tryz.prog 108 #[.slice A n C] w (Ans (.int .i64 (Crc.sumZ n z : Int)) w) := by
  have H := Lib.hid h
  clear h
  go_enter Tryz.func108, Tryz.ntmps108
  go_wp2_with fail
  refine (more_any _ _ _ _ z _ H.out).mono ?_
  rintro e w1 ⟨rfl, hch⟩
  rw [r0_none]
  go_wp2
  go_ret
  exact ⟨rfl, hch⟩
/-! ### lay -/
def layL (s : Nat) : Array Value := #[.int .u8 (Crc.byteOf s 0 : Int), .int .u8 (Crc.byteOf s 1 : Int), .int .u8 (Crc.byteOf s 2 : Int), .int .u8 (Crc.byteOf s 3 : Int)]
theorem lay_eq {s : Nat} (h : s < 4294967296) : layL s = #[.int .u8 ((s : Int) % 256), .int .u8 ((s : Int) / 256 % 256), .int .u8 ((s : Int) / 65536 % 256), .int .u8 ((s : Int) / 16777216)] := by
  unfold layL
  rw [show (Crc.byteOf s 0 : Int) = (s : Int) % 256 by unfold Crc.byteOf; simp only [Nat.reducePow]; omega,
    show (Crc.byteOf s 1 : Int) = (s : Int) / 256 % 256 by unfold Crc.byteOf; simp only [Nat.reducePow]; omega,
    show (Crc.byteOf s 2 : Int) = (s : Int) / 65536 % 256 by unfold Crc.byteOf; simp only [Nat.reducePow]; omega,
    show (Crc.byteOf s 3 : Int) = (s : Int) / 16777216 by unfold Crc.byteOf; simp only [Nat.reducePow]; omega]
theorem lay_any (s : Nat) (h : s < 4294967296) (w : World) : Calls Tryz.prog 107 #[.int .i64 (s : Int)] w fun e w' => e = .returned (.slice (some ⟨w.heap.size, 0, none⟩) 4 4) ∧ w.alloc (.cells (layL s) /-t-/5) = w' := by
  go_enter Tryz.func107, Tryz.ntmps107
  go_wp2
  go_ret
  exact ⟨rfl, by rw [lay_eq h]⟩
theorem lay_row (s : Nat) (w : World) : RowV (w.alloc (.cells (layL s) /-t-/5)) (.slice (some ⟨w.heap.size, 0, none⟩) 4 4) 4 (Crc.byteOf s) := by
  refine ⟨_, _, rfl, by omega, fun _ => ⟨_, _, rfl, fun c hc => ⟨?_, Crc.byteOf_lt _ _⟩⟩⟩
  rw [cell_of_row _ _ _ _ _ (0, 0) (heap_alloc_new w _)]
  have : c = 0 ∨ c = 1 ∨ c = 2 ∨ c = 3 := by omega
  rcases this with rfl | rfl | rfl | rfl <;> rfl
end Go.Proofs.YtlbdopcchoklhaaGreat
namespace Go.Proofs.YtlbdopcchoklhaaGreat
open Go.RowKit
set_option linter.unusedVariables false
set_option maxRecDepth 100000

/-! ### Equal -/
theorem text_eqB {n m : Nat} {z y : Nat → Nat} (hz : Bytes n z) (hy : Bytes m y) : ((textOf n z).toList == (textOf m y).toList) = eqB n m z y := by
  rw [ByteArray.toList_eq, ByteArray.toList_eq]
  have e : ((textOf n z).data.toList == (textOf m y).data.toList) = decide (textOf n z = textOf m y) := by
    rw [Bool.eq_iff_iff, beq_iff_eq, decide_eq_true_iff]
    exact ⟨fun h => ByteArray.ext (Array.ext' h), fun h => by rw [h]⟩
  rw [e]
  unfold eqB
  rw [decide_eq_decide]
  exact text_inj hz hy
theorem equal_any (A B : Option Addr) (n m C D : Nat) (z y : Nat → Nat) (w : World) (h : RowV w (.slice A n C) n z) (h2 : RowV w (.slice B m D) m y) : Calls Tryz.prog 115 #[.slice A n C, .slice B m D] w fun e w' => e = .returned (.bool (eqB n m z y)) ∧ w = w' := by
  have c1 := row_text h
  have c2 := row_text h2
  have HE := Lib.hid (text_eqB h.bytes h2.bytes)
  obtain ⟨S, hS⟩ : ∃ S, S = textOf n z := ⟨_, rfl⟩
  obtain ⟨T, hT⟩ : ∃ T, T = textOf m y := ⟨_, rfl⟩
  rw [← hS] at c1 HE
  rw [← hT] at c2 HE
  clear h h2 hS hT
  go_enter Tryz.func115, Tryz.ntmps115
  go_wp2
  go_ret
  exact ⟨ret_bool HE.out, rfl⟩
end Go.Proofs.YtlbdopcchoklhaaGreat
namespace Go.Proofs.YtlbdopcchoklhaaGreat
open Go.RowKit
set_option linter.unusedVariables false
set_option maxRecDepth 100000

/-- A new row. -/
def NewRow (n : Nat) (z : Nat → Nat) (w : World) (e : Ending) (w' : World) : Prop :=
  ∃ g C, e = .returned (.slice (some ⟨g, 0, none⟩) n C) ∧ w'.ownsRow w.heap.size /-t-/5 1 (.slice (some ⟨g, 0, none⟩) n C) n (bytesL n z) ∧ Ch (fun _ => False) w w'
theorem owns_some {w : World} {base n : Nat} {v : Value} {xs : List Value} (h : w.ownsRow base /-t-/5 1 v n xs) (hn : 0 < n) : ∃ g C, v = .slice (some ⟨g, 0, none⟩) n C ∧ n ≤ C := by
  rcases h.2 with ⟨_, h0⟩ | ⟨g, cap, cur, rfl, _, _, hc, _⟩
  · omega
  · exact ⟨g, cap, rfl, hc⟩
/-- copy of as many bytes as the row has, into a row of one's own with room behind. -/
theorem cpy_row {w : World} {g n c : Nat} {A : Option Addr} {C base : Nat} {z : Nat → Nat} {cur : Array Value} (hg : w.heap[g]? = some (.cells cur /-t-/5 (0, 0))) (hs : cur.size = c) (hn : n ≤ c) (hc : c ≤ maxLen) (hb : base ≤ g) (h : RowV w (.slice A n C) n z) :
    ∃ w', (∀ ty, (Builtin.copy_ #[ /-t-/24, /-t-/24] ty #[.slice (some ⟨g, 0, none⟩) n c, .slice A n C]).run Tryz.prog w = .ok (goInt n) w') ∧ w'.ownsRow base /-t-/5 1 (.slice (some ⟨g, 0, none⟩) n c) n (bytesL n z) ∧ w.grownBy w' (some g) := by
  by_cases h0 : n = 0
  · subst h0
    refine ⟨w, fun ty => run_copy_none w /-t-/24 /-t-/24 ty /-t-/5 _ _ 0 c 0 C Tryz.underlying24 size_byte rfl, ⟨rfl, Or.inr ⟨g, c, cur, rfl, hb, hg, hn, hc, by omega, by simp [bytesL]⟩⟩, ⟨rfl, rfl, rfl, Nat.le_refl _, fun _ _ _ => rfl⟩⟩
  · obtain ⟨_, _, e, hl, h3⟩ := h
    injection e with e _ _
    subst e
    obtain ⟨b, o, rfl, h4⟩ := h3 (by omega)
    have hrun := fun ty => run_copy_row (P := Tryz.prog) w /-t-/24 /-t-/24 ty /-t-/5 g 0 n c ⟨b, o, none⟩ n C cur /-t-/5 (bytesL n z) Tryz.underlying24 size_byte hg (by rw [bytesL_len]; simp) (fun j v hv => by
      by_cases q : j < n
      · rw [bytesL_get q] at hv
        rw [add_pl, (h4 j q).1]
        exact hv
      · rw [bytesL_none q] at hv
        cases hv) (by rw [bytesL_len]; omega) bytesL_one
    rw [bytesL_len] at hrun
    refine ⟨_, hrun, ⟨by rw [bytesL_len, Nat.mul_one], Or.inr ⟨g, c, _, rfl, hb, setRow_heap w g cur _ /-t-/5 _ hg, hn, hc, ?_, ?_⟩⟩, ⟨rfl, rfl, rfl, by simp, fun k _ hk => setRow_other w g k _ (fun e => hk (by simp [e]))⟩⟩
    · simp [bytesL_len]; omega
    · simp only [Nat.mul_one, List.take_zero, List.nil_append]
      rw [List.take_append_of_le_length (by rw [bytesL_len]; omega), List.take_of_length_le (by rw [bytesL_len]; omega)]
theorem seal_join (n : Nat) (z : Nat → Nat) : bytesL (n + 4) (jnZ n z (Crc.byteOf (Crc.sumZ n z))) = bytesL (n + 4) (Crc.sealZ n z) := bytesL_congr fun c _ => rfl
set_option maxHeartbeats 800000 in
theorem seal_any (A : Option Addr) (n C : Nat) (z : Nat → Nat) (w : World) (hn : n ≤ 65536) (h : RowV w (.slice A n C) n z) : Calls Tryz.prog 68 #[.slice A n C] w (NewRow (n + 4) (Crc.sealZ n z) w) := by
  obtain ⟨i0, hi, hz0, hz1, hz2⟩ := info_parts Tryz.info5
  have hmk : ∀ w : World, (Instr.makeSlice /-t-/24 (.int .i64 (n : Int)) (.int .i64 ((n : Int) + 4))).run Tryz.prog w = .ok (.slice (some ⟨w.heap.size, 0, none⟩) n (n + 4)) (w.alloc (.cells (madeCells #[.int .u8 0] (n + 4)) /-t-/5)) := fun w => by
    have := run_make (P := Tryz.prog) w /-t-/24 /-t-/5 i0 (.int .u8 0) Tryz.underlying24 hi hz0 .i64 .i64 (n : Int) ((n : Int) + 4) (by omega) (by omega) (by rw [hz2]; omega) (by omega)
    rw [hz1, Nat.mul_one, Int.toNat_natCast, show ((n : Int) + 4).toNat = n + 4 by omega] at this
    exact this
  have HV := Lib.hid h
  have HG := Lib.hid (heap_alloc_new w (.cells (madeCells #[.int .u8 0] (n + 4)) /-t-/5))
  obtain ⟨w2, hrun, hown, hgr⟩ := cpy_row (base := w.heap.size) HG.out (size_madeCells _ _) (Nat.le_add_right n 4) (by unfold maxLen; omega) (Nat.le_refl _) (h.gr ((Ch.refl _ w).alloc _ _))
  have hch := ((Ch.refl (fun _ => False) w).alloc (madeCells #[.int .u8 0] (n + 4)) /-t-/5).grown hgr (fun i e => Or.inr (by injection e with e; omega))
  have HRUN := Lib.hid hrun
  have HOWN := Lib.hid hown
  have HC := Lib.hid hch
  have HB := Lib.hid h.bytes
  clear h hrun hown hgr hch hi hz0 hz1 hz2
  go_enter Tryz.func68, Tryz.ntmps68
  go_wp2_with (refine wpList_cpy_of _ rfl (.tmp 10) (.tmp 11) rfl _ _ _ w2 rfl rfl HRUN.out ?_)
  refine (sum_any _ _ _ z _ (HV.out.gr HC.out)).mono ?_
  rintro e w3 ⟨rfl, hch3⟩
  have HC3 := Lib.hid (HC.out.trans hch3)
  have HO3 := Lib.hid (ownsRow_ch HOWN.out hch3)
  clear hch3 HOWN HRUN
  go_wp2_with fail
  refine (lay_any _ (Crc.sumZ_lt HB.out) _).mono ?_
  rintro e w4 ⟨rfl, rfl⟩
  obtain ⟨v', w5, hr5, ho5, hg5, _⟩ := app_row (HO3.out.alloc (.cells (layL (Crc.sumZ n z)) /-t-/5)) (by simp; have := HC3.out.size; omega) (lay_row (Crc.sumZ n z) w3) (by omega)
  obtain ⟨g5, C5, rfl, _⟩ := owns_some ho5 (by omega)
  rw [seal_join] at ho5
  have HR5 := Lib.hid hr5
  have HO5 := Lib.hid ho5
  have HC5 := Lib.hid ((HC3.out.alloc (layL (Crc.sumZ n z)) /-t-/5).grown hg5 (fun i e => Or.inr (by
    have := (World.ownsRow.lt HO3.out i e).1
    omega)))
  clear hr5 ho5 hg5
  go_wp2_with (at_builtin; refine wpList_app_of _ rfl (.tmp 13) (.tmp 16) rfl rfl _ _ _ w5 rfl rfl HR5.out ?_)
  go_ret
  exact ⟨_, _, rfl, HO5.out, HC5.out⟩
end Go.Proofs.YtlbdopcchoklhaaGreat
namespace Go.Proofs.YtlbdopcchoklhaaGreat
open Go.RowKit
set_option linter.unusedVariables false
set_option maxRecDepth 100000

/-! ### differ -/
def pw (k : Nat) : Nat := 2 ^ k
def dn (a k : Nat) : Nat := a / 2 ^ k
def lo (a b k : Nat) : Nat := (a ^^^ b) % 2 ^ k
theorem pw_succ (k : Nat) : pw (k + 1) = pw k * 2 := Nat.pow_succ ..
theorem pw_le {k : Nat} (h : k ≤ 32) : pw k ≤ 4294967296 := Nat.pow_le_pow_right (n := 2) (by omega) h
theorem dn_succ (a k : Nat) : dn a (k + 1) = dn a k / 2 := by unfold dn; rw [Nat.pow_succ, Nat.div_div_eq_div_mul]
theorem lo_lt (a b k : Nat) : lo a b k < pw k := Nat.mod_lt _ (Nat.pow_pos (by omega))
theorem lo_bit (a b k : Nat) : lo a b (k + 1) = lo a b k + pw k * ((dn a k % 2) ^^^ (dn b k % 2)) := by
  unfold lo pw dn
  rw [Nat.pow_succ, Nat.mod_mul, Nat.xor_div_two_pow, Crc.xor_odd]
theorem lo_yes {a b k : Nat} (h : ¬ dn a k % 2 = dn b k % 2) : lo a b (k + 1) = lo a b k + pw k := by
  rw [lo_bit]
  rcases Nat.mod_two_eq_zero_or_one (dn a k) with ha | ha <;> rcases Nat.mod_two_eq_zero_or_one (dn b k) with hb | hb <;> rw [ha, hb] at h ⊢
  · exact absurd rfl h
  · simp
  · simp
  · exact absurd rfl h
theorem lo_no {a b k : Nat} (h : dn a k % 2 = dn b k % 2) : lo a b (k + 1) = lo a b k := by
  rw [lo_bit, h, Nat.xor_self]; simp
theorem lo_all {a b : Nat} (ha : a < 4294967296) (hb : b < 4294967296) : lo a b 32 = a ^^^ b := Nat.mod_eq_of_lt (Crc.xor_lt ha hb)
set_option maxHeartbeats 800000 in
set_option maxRecDepth 100000 in
theorem differ_any (a b : Nat) (ha : a < 4294967296) (hb : b < 4294967296) (w : World) : Calls Tryz.prog 132 #[.int .i64 (a : Int), .int .i64 (b : Int)] w fun e w' => e = .returned (.int .i64 ((a ^^^ b : Nat) : Int)) ∧ w = w' := by
  have HE := Lib.hid (lo_all ha hb)
  have H0 := Lib.hid (show dn a 0 = a ∧ dn b 0 = b ∧ lo a b 0 = 0 ∧ pw 0 = 1 from ⟨Nat.div_one a, Nat.div_one b, Nat.mod_one _, rfl⟩)
  obtain ⟨T, hT⟩ : ∃ T : Nat, T = 4294967296 := ⟨_, rfl⟩
  have HP0 := Lib.hid (show (∀ k, k ≤ 32 → pw k ≤ T) ∧ (∀ k, dn a k ≤ T) ∧ (∀ k, dn b k ≤ T) from ⟨fun k hk => by rw [hT]; exact pw_le hk, fun k => by rw [hT]; exact Nat.le_trans (Nat.div_le_self _ _) (Nat.le_of_lt ha), fun k => by rw [hT]; exact Nat.le_trans (Nat.div_le_self _ _) (Nat.le_of_lt hb)⟩)
  have hT' : T ≤ 4294967296 := by omega
  clear ha hb hT
  go_enter Tryz.func132, Tryz.ntmps132
  go_wp2
  go_loop [0, 1, 5, 6, 7] (fun x y n p i => ∃ k : Nat, k ≤ 32 ∧ i = .int .i64 k ∧ x = .int .i64 (dn a k : Int) ∧ y = .int .i64 (dn b k : Int) ∧ n = .int .i64 (lo a b k : Int) ∧ p = .int .i64 (pw k : Int)) (fun _ _ _ _ i => 32 - (intOf i).toNat)
  case atStart => exact ⟨0, Nat.zero_le _, rfl, by rw [H0.out.1], by rw [H0.out.2.1], by rw [H0.out.2.2.1]; rfl, by rw [H0.out.2.2.2]; rfl⟩
  case round =>
    obtain ⟨k, hk, rfl, rfl, rfl, rfl, rfl⟩ := hrel
    by_cases hlt : k < 32
    · have hp := HP0.out.1 k hk
      have hda := HP0.out.2.1 k
      have hdb := HP0.out.2.2 k
      have hl := lo_lt a b k
      have HX := Lib.hid (dn_succ a k)
      have HY := Lib.hid (dn_succ b k)
      have HP := Lib.hid (pw_succ k)
      by_cases q : dn a k % 2 = dn b k % 2
      · have HL := Lib.hid (lo_no q)
        have t1 : ((dn a k : Int) % 2 != (dn b k : Int) % 2) = false := by simp; omega
        clear q
        go_wp2
        go_round
        case rel => exact ⟨k + 1, by omega, by go_num, by rw [HX.out]; rfl, by rw [HY.out]; rfl, by rw [HL.out], by rw [HP.out]; go_num⟩
        case measure => simp [intOf]; omega
      · have HL := Lib.hid (lo_yes q)
        have t1 : ((dn a k : Int) % 2 != (dn b k : Int) % 2) = true := by simp; omega
        clear q
        go_wp2
        go_round
        case rel => exact ⟨k + 1, by omega, by go_num, by rw [HX.out]; rfl, by rw [HY.out]; rfl, by rw [HL.out]; go_num, by rw [HP.out]; go_num⟩
        case measure => simp [intOf]; omega
    · obtain rfl : k = 32 := by omega
      go_wp2
      go_ret
      exact ⟨ret_int (by rw [HE.out]), rfl⟩
/-! ### Sum -/
theorem st_odd_nat {r : Nat} (o : r % 2 = 1) : r / 2 ^^^ 2197175160 = Crc.st r := by unfold Crc.st; rw [if_pos o]
set_option maxHeartbeats 800000 in
set_option maxRecDepth 100000 in
theorem rsum_any (A : Option Addr) (n C : Nat) (z : Nat → Nat) (w : World) (h : RowV w (.slice A n C) n z) : Calls Tryz.prog 113 #[.slice A n C] w fun e w' => e = .returned (.int .i64 (Crc.sumZ n z : Int)) ∧ w = w' := by
  have HB := Lib.hid h.bytes
  have HV := Lib.hid h
  obtain ⟨_, _, _, hl, _⟩ := id h
  have hl1 := hl.1
  clear h hl
  go_enter Tryz.func113, Tryz.ntmps113
  go_wp2
  go_loop [3, 4, 5, 6] (fun r i _ _ => ∃ k : Nat, k ≤ n ∧ i = .int .i64 k ∧ r = .int .i64 (Crc.reg 4294967295 z k : Int)) (fun _ i _ _ => n - (intOf i).toNat)
  case atStart => exact ⟨0, Nat.zero_le _, rfl, rfl⟩
  case round =>
    obtain ⟨k, hk, rfl, rfl⟩ := hrel
    have hRL := Crc.reg_lt (r := 4294967295) (z := z) (by omega) k (fun i hi => HB.out i (by omega))
    by_cases hlt : k < n
    · have hx := HB.out k hlt
      have HN := Lib.hid (show Crc.reg 4294967295 z (k + 1) = Crc.it 8 (Crc.reg 4294967295 z k ^^^ z k) from rfl)
      obtain ⟨R, hR⟩ : ∃ R, R = Crc.reg 4294967295 z k := ⟨_, rfl⟩
      rw [← hR] at hRL HN ⊢
      have HRL := Lib.hid hRL
      have HXL := Lib.hid (Crc.xor_lt hRL (show z k < 4294967296 by omega))
      obtain ⟨_, _, e2, _, h3⟩ := HV.out
      injection e2 with e2 _ _
      subst e2
      obtain ⟨b', o', rfl, h4⟩ := h3 (by omega)
      have c2 := (h4 k hlt).1
      clear h3 h4 hR hRL
      go_wp2_with fail
      refine (differ_any _ _ HRL.out (by omega) _).mono ?_
      rintro e w' ⟨rfl, rfl⟩
      obtain ⟨X, hX⟩ : ∃ X, X = R ^^^ z k := ⟨_, rfl⟩
      rw [← hX] at HN HXL ⊢
      clear hX
      go_wp2
      go_loop [3, 5, 6] (fun r i _ => ∃ j : Nat, j ≤ 8 ∧ i = .int .i64 j ∧ r = .int .i64 (Crc.it j X : Int)) (fun _ i _ => 8 - (intOf i).toNat)
      case atStart => exact ⟨0, Nat.zero_le _, rfl, rfl⟩
      case round =>
        obtain ⟨j, hj, rfl, rfl⟩ := hrel
        by_cases hlt2 : j < 8
        · have HS := Lib.hid (show Crc.it (j + 1) X = Crc.st (Crc.it j X) from rfl)
          have HYL := Lib.hid (Crc.it_lt HXL.out j)
          obtain ⟨Y, hY⟩ : ∃ Y, Y = Crc.it j X := ⟨_, rfl⟩
          rw [← hY] at HS HYL ⊢
          have hYb : Y ≤ 4294967296 := by have := HYL.out; omega
          clear hY
          by_cases q : Y % 2 = 1
          · have t1 : ((Y : Int) % 2 == 1) = true := by simp; omega
            have HQ := Lib.hid (st_odd_nat q)
            clear q
            go_wp2_with fail
            refine (differ_any (Y / 2) 2197175160 (by have := HYL.out; omega) (by omega) _).mono ?_
            rintro e w' ⟨rfl, rfl⟩
            go_wp2
            go_round
            case rel => exact ⟨j + 1, by omega, by go_num, by rw [HS.out, ← HQ.out]⟩
            case measure => simp [intOf]; omega
          · have t1 : ((Y : Int) % 2 == 1) = false := by simp; omega
            have HQ := Lib.hid (st_even q)
            clear q
            go_wp2
            go_round
            case rel => exact ⟨j + 1, by omega, by go_num, by rw [HS.out]; exact int_eq HQ.out⟩
            case measure => simp [intOf]; omega
        · obtain rfl : j = 8 := by omega
          go_wp2
          go_round
          case rel => exact ⟨k + 1, by omega, by go_num, by rw [HN.out]⟩
          case measure => simp [intOf]; omega
    · obtain rfl : k = n := by omega
      have HE := Lib.hid (show (4294967295 : Int) - (Crc.reg 4294967295 z k : Int) = (Crc.sumZ k z : Int) by
        unfold Crc.sumZ; rw [Crc.not_xor hRL]; omega)
      go_wp2
      go_ret
      exact ⟨ret_int HE.out, rfl⟩
end Go.Proofs.YtlbdopcchoklhaaGreat
