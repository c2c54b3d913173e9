/-
  CodeOnly, walked.
-/
import Derived.Test.YtfnmdcfnojgofaaCodW
namespace Go.Proofs.Ytfnmdcfnojgofaa
open Go.RowKit Go.Shelf Cod
set_option linter.unusedVariables false

theorem lit_is (l : List Nat) (k : Nat) (z : Nat → Nat) (h : l = rowL k z) : eqB l.length k (litZ l) z = true := by
  subst h
  exact decide_eq_true ⟨rowL_len k z, fun c hc => litZ_range k z (by rwa [rowL_len] at hc)⟩
theorem only_num {n k e top : Nat} {z : Nat → Nat} (hr : Rd n z k e) (hb : Bytes n z) (hE : resE top z k e = 0) : digs (resV top z k e) = rowL (resK top z k e) z ∧ 0 < resK top z k e ∧ resK top z k e ≤ n := by
  rcases resE_cases top z k e with ⟨_, e2, e3, e4⟩ | ⟨h, _⟩
  · subst e2
    rw [e3, e4]
    obtain ⟨h1, h2, _⟩ := rd_ok_short hr
    exact ⟨digs_val hr hb, h1, h2⟩
  · exact absurd hE h
theorem only_bytes {n k e : Nat} {z : Nat → Nat} (hr : Rd n z k e) (hb : Bytes n z) (hE : bE n z k e = 0) : byL (bL n z k e) (fun i => z (resK T63 z k e + i)) = rowL (bK n z k e) z ∧ 0 < bK n z k e ∧ bK n z k e ≤ n := by
  obtain ⟨h1, h2, h3, h4, h5⟩ := b_ok hE
  obtain ⟨h6, h7, h8⟩ := only_num hr hb h3
  rw [h1, h2]
  refine ⟨?_, by omega, by omega⟩
  unfold byL
  rw [h6]
  unfold rowL
  rw [List.range_add, List.map_append, List.map_map]
  rfl
theorem digs_le {v : Nat} (h : v ≤ T64) : (digs v).length ≤ 10 := digs_len10 (by unfold T64 at h; omega)
/-- The world behind the calls of CodeOnly: an In of which K bytes are gone through, an Out that has L. -/
structure OnlySt (w W : World) (B Bo : Nat) (x v : Value) (n K : Nat) (z : Nat → Nat) (L : List Nat) : Prop where
  inn : InIs W B x (n - K) (fun i => z (K + i))
  out : OutIs w.heap.size W Bo v L
  ch : Ch (fun _ => False) w W
theorem only_put {w W W' : World} {B Bo : Nat} {x v r : Value} {n K : Nat} {z : Nat → Nat} {L L' : List Nat} {e : Ending} (h : OnlySt w W B Bo x v n K z L) (hB : B < Bo) (hd : Off (fun i => Foot Bo v i) x) (hBf : ¬ Foot Bo v B) (hp : PutPost w.heap.size Bo v L' r W e W') : e = .returned r ∧ ∃ v', OnlySt w W' B Bo x v' n K z L' := by
  obtain ⟨h1, v', h2, _, h4⟩ := hp
  exact ⟨h1, v', h.inn.ch h4 hBf hd, h2, h.ch.new (h4.mono (fun i _ hi => h.out.foot hi))⟩
set_option maxHeartbeats 1600000 in
set_option maxRecDepth 100000 in
theorem only_num0 (A : Option Addr) (n C : Nat) (z : Nat → Nat) (k e : Nat) (w : World) (h : RowV w (.slice A n C) n z) (hn : n ≤ 6000) (hr : Rd n z k e) : Calls Try.prog 6 #[.slice A n C, .int .i64 0] w (Told w) := by
  have HV := Lib.hid h
  have HR := Lib.hid hr
  have hl : n ≤ C := by obtain ⟨_, _, e1, hl, _⟩ := h; injection e1 with _ _ e1; rw [e1]; exact hl.2
  have t1 : decide ((6000 : Int) < (n : Int)) = false := by simp; omega
  obtain ⟨V, hV⟩ : ∃ V, V = resV T63 z k e := ⟨_, rfl⟩
  obtain ⟨K, hK⟩ : ∃ K, K = resK T63 z k e := ⟨_, rfl⟩
  obtain ⟨E, hEE⟩ : ∃ E, E = resE T63 z k e := ⟨_, rfl⟩
  have HOK : Hid (E = 0 → digs V = rowL K z ∧ 0 < K ∧ K ≤ n) := fun q => by rw [hV, hK]; exact only_num hr h.bytes (hEE ▸ q)
  have HBAD : Hid (¬ E = 0 → K = 0) := fun q => by
    rcases resE_cases T63 z k e with ⟨q1, _⟩ | ⟨_, q2, _⟩
    · exact absurd (hEE.trans q1) q
    · exact hK.trans q2
  have HG := Lib.hid (fun W B x (hI : InIs W B x n z) => inum_any B n x z k e W hI hr)
  rw [← hV, ← hK, ← hEE] at HG
  have hv : V ≤ 9223372036854775807 := by rw [hV]; exact resV_le T63 z k e
  obtain ⟨L, hL⟩ : ∃ L, L = digs V := ⟨_, rfl⟩
  clear h hr hV hK hEE
  go_enter Try.func6, Try.ntmps6
  go_wp2_with fail
  refine (awake_any _).mono ?_
  rintro e w1 ⟨rfl, hch1⟩
  have HC1 := Lib.hid hch1
  clear hch1
  go_wp2_with fail
  refine (newIn_any _ n _ z _ (HV.out.gr HC1.out) (by omega)).mono ?_
  rintro e w2 ⟨B, x, rfl, h2, hB2, hch2⟩
  have HI := Lib.hid (h2.gr ((Ch.refl _ w2).alloc #[.slice none 0 0] 28))
  have HC2 := Lib.hid ((HC1.out.trans hch2).alloc #[.slice none 0 0] 28)
  have HO := Lib.hid (nil_out w.heap.size w2 (HC1.out.trans hch2).size)
  have HB1 := Lib.hid (show w.heap.size ≤ B from Nat.le_trans HC1.out.size hB2)
  have HB2 := Lib.hid (show B < w2.heap.size from h2.box.lt)
  have HX := Lib.hid (show Off (fun i => i = w2.heap.size) x from h2.row.low.mono (fun i hi => by omega))
  clear h2 hB2 hch2 HC1
  have HFT : Hid (∀ i, Foot w2.heap.size (.slice none 0 0) i → i = w2.heap.size) := fun i hi => by
    rcases hi with q | q
    · exact q
    · cases q
  go_wp2_with fail
  refine (HG.out _ B x HI.out).mono ?_
  rintro e' w3 ⟨rfl, x3, h3, ho3, hch3⟩
  have hst : OnlySt w w3 B w2.heap.size x3 (.slice none 0 0) n K z [] := ⟨h3, HO.out.ch hch3 (fun i hi q => by have := HFT.out i hi; have := HB2.out; omega), HC2.out.new (hch3.mono (fun i _ q => by rw [q]; exact HB1.out))⟩
  have HD3 := Lib.hid (show Off (fun i => Foot w2.heap.size (.slice none 0 0) i) x3 from ho3 _ (HX.out.mono HFT.out))
  have HS3 := Lib.hid hst
  have HSZ := Lib.hid hch3.size
  clear hst h3 ho3 hch3
  go_wp2_with fail
  refine (onum_any w.heap.size w2.heap.size V _ [] _ hv HS3.out.out HS3.out.ch.size (Nat.zero_le _)).mono ?_
  rintro e' w4 hp
  obtain ⟨rfl, v4, hst4⟩ := only_put HS3.out HB2.out HD3.out (fun hf => by have := HFT.out _ hf; have := HB2.out; omega) hp
  rw [List.nil_append] at hst4
  have HL := Lib.hid hL
  rw [← hL] at hst4
  have HST := Lib.hid hst4
  clear hL hst4 hp
  rcases Nat.eq_zero_or_pos E with hE0 | hE1
  · subst hE0
    obtain ⟨hd, hk2, hk3⟩ := HOK.out rfl
    have HLI := Lib.hid (lit_is L K z (HL.out.trans hd))
    have hLlen : L.length ≤ 6000 := by rw [HL.out.trans hd, rowL_len]; omega
    have HLL := Lib.hid hLlen
    have t9 : decide (K ≤ n) = true := by simp; omega
    have t8 : decide ((0 : Int) < (K : Int)) = true := by simp; omega
    have t7 : decide (0 < K) = true := by simp; omega
    have e9 : (n : Int) - ((n - K : Nat) : Int) = (K : Int) := by omega
    have HF := Lib.hid (row_front (HV.out.gr HST.out.ch) hk3)
    have hKC : K ≤ C := by omega
    clear hd hLlen
    go_wp2_with fail
    refine (left_any B _ _ _ _ HST.out.inn).mono ?_
    rintro e w' ⟨rfl, rfl⟩
    go_wp2_with fail
    refine wp_region_held (S := fun _ => True) (by kernel_rfl) ?_
    change wpAnyH _ _ _ _ _ _ _ _ (World.drew _)
    refine wpAnyH_take (i := 0) (oi := { dst := some 73, op := .move (.tmp 15), type := _, pos := _, after := _, guard := none }) (v := .int .i64 (K : Int)) rfl (by kernel_rfl) (by kernel_rfl) (by kernel_rfl) (fun _ _ _ h => h) (Or.inl ⟨by rfl, fun w' hS => ?_⟩) trivial ?_
    · clear hS; go_simp
    simp only [Act.put, List.setIfInBounds_toArray, List.set_cons_zero, List.set_cons_succ]
    refine wpAnyH_take (i := 1) (oi := { dst := some 74, op := .binOp .gtr /-t-/3 (.tmp 73) (.const (.int .i64 0)) /-t-/3, type := _, pos := _, after := _, guard := none }) (v := .bool true) rfl (by kernel_rfl) (by kernel_rfl) (by kernel_rfl) (fun _ _ _ h => h) (Or.inl ⟨by rfl, fun w' hS => ?_⟩) trivial ?_
    · clear hS; go_simp
    simp only [Act.put, List.setIfInBounds_toArray, List.set_cons_zero, List.set_cons_succ]
    refine wpAnyH_take (i := 2) (oi := { dst := some 75, op := .move (.tmp 74), type := _, pos := _, after := _, guard := none }) (v := .bool true) rfl (by kernel_rfl) (by kernel_rfl) (by kernel_rfl) (fun _ _ _ h => h) (Or.inl ⟨by rfl, fun w' hS => ?_⟩) trivial ?_
    · clear hS; go_simp
    simp only [Act.put, List.setIfInBounds_toArray, List.set_cons_zero, List.set_cons_succ]
    refine wpAnyH_take (i := 3) (oi := { dst := some 76, op := .move (.tmp 15), type := _, pos := _, after := _, guard := some (2, true) }) (v := .int .i64 (K : Int)) rfl (by kernel_rfl) (by kernel_rfl) (by kernel_rfl) (fun _ _ _ h => h) (Or.inl ⟨by rfl, fun w' hS => ?_⟩) trivial ?_
    · clear hS; go_simp
    simp only [Act.put, List.setIfInBounds_toArray, List.set_cons_zero, List.set_cons_succ]
    refine wpAnyH_take (i := 4) (oi := { dst := some 77, op := .move (.tmp 0), type := _, pos := _, after := _, guard := some (2, true) }) (v := .slice A n C) rfl (by kernel_rfl) (by kernel_rfl) (by kernel_rfl) (fun _ _ _ h => h) (Or.inl ⟨by rfl, fun w' hS => ?_⟩) trivial ?_
    · clear hS; go_simp
    simp only [Act.put, List.setIfInBounds_toArray, List.set_cons_zero, List.set_cons_succ]
    refine wpAnyH_take (i := 5) (oi := { dst := some 78, op := .call { callee := .builtin .len, args := #[.tmp 77], argTypes := #[ /-t-/26] }, type := _, pos := _, after := _, guard := some (2, true) }) (v := .int .i64 (n : Int)) rfl (by kernel_rfl) (by kernel_rfl) (by kernel_rfl) (fun _ _ _ h => h) (Or.inl ⟨by rfl, fun w' hS => ?_⟩) trivial ?_
    · clear hS; go_simp
    simp only [Act.put, List.setIfInBounds_toArray, List.set_cons_zero, List.set_cons_succ]
    refine wpAnyH_take (i := 6) (oi := { dst := some 79, op := .binOp .leq /-t-/3 (.tmp 76) (.tmp 78) /-t-/3, type := _, pos := _, after := _, guard := some (2, true) }) (v := .bool true) rfl (by kernel_rfl) (by kernel_rfl) (by kernel_rfl) (fun _ _ _ h => h) (Or.inl ⟨by rfl, fun w' hS => ?_⟩) trivial ?_
    · clear hS; go_simp
    simp only [Act.put, List.setIfInBounds_toArray, List.set_cons_zero, List.set_cons_succ]
    refine wpAnyH_take (i := 7) (oi := { dst := some 80, op := .pick (.tmp 75) (.tmp 79) (.const (.bool false)), type := _, pos := _, after := _, guard := none }) (v := .bool true) rfl (by kernel_rfl) (by kernel_rfl) (by kernel_rfl) (fun _ _ _ h => h) (Or.inl ⟨by rfl, fun w' hS => ?_⟩) trivial ?_
    · clear hS; go_simp
    simp only [Act.put, List.setIfInBounds_toArray, List.set_cons_zero, List.set_cons_succ]
    refine wpAnyH_take (i := 8) (oi := { dst := some 81, op := .move (.tmp 80), type := _, pos := _, after := _, guard := none }) (v := .bool true) rfl (by kernel_rfl) (by kernel_rfl) (by kernel_rfl) (fun _ _ _ h => h) (Or.inl ⟨by rfl, fun w' hS => ?_⟩) trivial ?_
    · clear hS; go_simp
    simp only [Act.put, List.setIfInBounds_toArray, List.set_cons_zero, List.set_cons_succ]
    refine wpAnyH_take (i := 9) (oi := { dst := some 82, op := .move (.tmp 7), type := _, pos := _, after := _, guard := some (8, true) }) (v := .pointer (some ⟨w2.heap.size, 0, none⟩)) rfl (by kernel_rfl) (by kernel_rfl) (by kernel_rfl) (fun _ _ _ h => h) (Or.inl ⟨by rfl, fun w' hS => ?_⟩) trivial ?_
    · clear hS; go_simp
    simp only [Act.put, List.setIfInBounds_toArray, List.set_cons_zero, List.set_cons_succ]
    refine wpAnyH_take (i := 11) (oi := { dst := some 84, op := .move (.tmp 0), type := _, pos := _, after := _, guard := some (8, true) }) (v := .slice A n C) rfl (by kernel_rfl) (by kernel_rfl) (by kernel_rfl) (fun _ _ _ h => h) (Or.inl ⟨by rfl, fun w' hS => ?_⟩) trivial ?_
    · clear hS; go_simp
    simp only [Act.put, List.setIfInBounds_toArray, List.set_cons_zero, List.set_cons_succ]
    refine wpAnyH_take (i := 12) (oi := { dst := some 85, op := .move (.tmp 15), type := _, pos := _, after := _, guard := some (8, true) }) (v := .int .i64 (K : Int)) rfl (by kernel_rfl) (by kernel_rfl) (by kernel_rfl) (fun _ _ _ h => h) (Or.inl ⟨by rfl, fun w' hS => ?_⟩) trivial ?_
    · clear hS; go_simp
    simp only [Act.put, List.setIfInBounds_toArray, List.set_cons_zero, List.set_cons_succ]
    refine wpAnyH_take (i := 13) (oi := { dst := some 86, op := .slice /-t-/26 (.tmp 84) none (some (.tmp 85)) none, type := _, pos := _, after := _, guard := some (8, true) }) (v := .slice A K C) rfl (by kernel_rfl) (by kernel_rfl) (by kernel_rfl) (fun _ _ _ h => h) (Or.inl ⟨by rfl, fun w' hS => ?_⟩) trivial ?_
    · clear hS; go_simp
    simp only [Act.put, List.setIfInBounds_toArray, List.set_cons_zero, List.set_cons_succ]
    refine wpAnyH_ready (rs := [10]) (by kernel_rfl) (by simp) ?_
    refine AllReadyH.cons rfl (fun K' hK => ?_) AllReadyH.nil
    go_simp
    refine (all_any w.heap.size w2.heap.size v4 L _ (HST.out.out.ch (Ch.refl (fun _ => False) w4).drew (fun _ _ f => f)) (by have := HLL.out; omega)).mono ?_
    rintro e5 w5 ⟨y5, rfl, h5, hch5⟩
    have hr5 := ownsRow_rowV h5 (by have := HLL.out; omega) (fun c _ => litZ_b HST.out.out.byt c)
    obtain ⟨A5, C5, rfl, _⟩ := id hr5
    refine hK.out _ _ trivial (fun _ => ?_)
    clear hK K'
    refine wpAnyH_ready (rs := [14]) (by kernel_rfl) (by simp) ?_
    refine AllReadyH.cons rfl (fun K' hK => ?_) AllReadyH.nil
    go_simp
    refine (same_any _ _ _ _ _ _ _ _ _ hr5 (HF.out.gr ((Ch.refl _ w4).drew.trans hch5))).mono ?_
    rintro e6 w6 ⟨rfl, d6, rfl⟩
    rw [HLI.out]
    refine hK.out _ _ trivial (fun _ => ?_)
    clear hK K'
    refine wpAnyH_ready (rs := [15]) (by kernel_rfl) (by simp) ?_
    refine AllReadyH.cons rfl (fun K' hK => ?_) AllReadyH.nil
    go_simp
    refine hK.out _ _ trivial (fun _ => ?_)
    clear hK K'
    refine wpAnyH_ready (rs := [16]) (by kernel_rfl) (by simp) ?_
    refine AllReadyH.cons rfl (fun K' hK => ?_) AllReadyH.nil
    go_simp
    refine hK.out _ _ trivial (fun _ => ?_)
    clear hK K'
    refine wpAnyH_done (by kernel_rfl) ?_ _
    go_wp2
    go_ret
    exact ⟨rfl, (HST.out.ch.drew.trans hch5).drewN d6⟩
  · obtain rfl := HBAD.out (by omega)
    have t2 : ((E : Int) != 0) = true := by simp; omega
    have t3 : ((n : Int) == (n : Int)) = true := by simp
    go_wp2_with fail
    refine (left_any B _ _ _ _ HST.out.inn).mono ?_
    rintro e w' ⟨rfl, rfl⟩
    rw [Nat.sub_zero]
    go_wp2
    go_ret
    exact ⟨rfl, HST.out.ch⟩
#print axioms only_num0
set_option maxHeartbeats 1600000 in
set_option maxRecDepth 100000 in
theorem only_int1 (A : Option Addr) (n C : Nat) (z : Nat → Nat) (k e : Nat) (w : World) (h : RowV w (.slice A n C) n z) (hn : n ≤ 6000) (hr : Rd n z k e) : Calls Try.prog 6 #[.slice A n C, .int .i64 1] w (Told w) := by
  have HV := Lib.hid h
  have HR := Lib.hid hr
  have hl : n ≤ C := by obtain ⟨_, _, e1, hl, _⟩ := h; injection e1 with _ _ e1; rw [e1]; exact hl.2
  have t1 : decide ((6000 : Int) < (n : Int)) = false := by simp; omega
  obtain ⟨V, hV⟩ : ∃ V, V = resV T64 z k e := ⟨_, rfl⟩
  obtain ⟨K, hK⟩ : ∃ K, K = resK T64 z k e := ⟨_, rfl⟩
  obtain ⟨E, hEE⟩ : ∃ E, E = resE T64 z k e := ⟨_, rfl⟩
  have HOK : Hid (E = 0 → digs (turnZ (backZ V)) = rowL K z ∧ 0 < K ∧ K ≤ n) := fun q => by rw [turn_back, hV, hK]; exact only_num hr h.bytes (hEE ▸ q)
  have HBAD : Hid (¬ E = 0 → K = 0) := fun q => by
    rcases resE_cases T64 z k e with ⟨q1, _⟩ | ⟨_, q2, _⟩
    · exact absurd (hEE.trans q1) q
    · exact hK.trans q2
  have HG := Lib.hid (fun W B x (hI : InIs W B x n z) => iint_any B n x z k e W hI hr)
  rw [← hV, ← hK, ← hEE] at HG
  have HVB := Lib.hid (back_in (v := V) (by have := resV_le T64 z k e; unfold T64 at this; rw [hV]; unfold T64; omega))
  obtain ⟨L, hL⟩ : ∃ L, L = digs (turnZ (backZ V)) := ⟨_, rfl⟩
  obtain ⟨X, hX⟩ : ∃ X, X = backZ V := ⟨_, rfl⟩
  rw [← hX] at HG HVB HOK hL
  clear h hr hV hK hEE hX
  go_enter Try.func6, Try.ntmps6
  go_wp2_with fail
  refine (awake_any _).mono ?_
  rintro e w1 ⟨rfl, hch1⟩
  have HC1 := Lib.hid hch1
  clear hch1
  go_wp2_with fail
  refine (newIn_any _ n _ z _ (HV.out.gr HC1.out) (by omega)).mono ?_
  rintro e w2 ⟨B, x, rfl, h2, hB2, hch2⟩
  have HI := Lib.hid (h2.gr ((Ch.refl _ w2).alloc #[.slice none 0 0] 28))
  have HC2 := Lib.hid ((HC1.out.trans hch2).alloc #[.slice none 0 0] 28)
  have HO := Lib.hid (nil_out w.heap.size w2 (HC1.out.trans hch2).size)
  have HB1 := Lib.hid (show w.heap.size ≤ B from Nat.le_trans HC1.out.size hB2)
  have HB2 := Lib.hid (show B < w2.heap.size from h2.box.lt)
  have HX := Lib.hid (show Off (fun i => i = w2.heap.size) x from h2.row.low.mono (fun i hi => by omega))
  clear h2 hB2 hch2 HC1
  have HFT : Hid (∀ i, Foot w2.heap.size (.slice none 0 0) i → i = w2.heap.size) := fun i hi => by
    rcases hi with q | q
    · exact q
    · cases q
  go_wp2_with fail
  refine (HG.out _ B x HI.out).mono ?_
  rintro e' w3 ⟨rfl, x3, h3, ho3, hch3⟩
  have hst : OnlySt w w3 B w2.heap.size x3 (.slice none 0 0) n K z [] := ⟨h3, HO.out.ch hch3 (fun i hi q => by have := HFT.out i hi; have := HB2.out; omega), HC2.out.new (hch3.mono (fun i _ q => by rw [q]; exact HB1.out))⟩
  have HD3 := Lib.hid (show Off (fun i => Foot w2.heap.size (.slice none 0 0) i) x3 from ho3 _ (HX.out.mono HFT.out))
  have HS3 := Lib.hid hst
  have HSZ := Lib.hid hch3.size
  clear hst h3 ho3 hch3
  go_wp2_with fail
  refine (oint_any w.heap.size w2.heap.size X _ [] _ HVB.out HS3.out.out HS3.out.ch.size (Nat.zero_le _)).mono ?_
  rintro e' w4 hp
  obtain ⟨rfl, v4, hst4⟩ := only_put HS3.out HB2.out HD3.out (fun hf => by have := HFT.out _ hf; have := HB2.out; omega) hp
  rw [List.nil_append] at hst4
  have HL := Lib.hid hL
  rw [← hL] at hst4
  have HST := Lib.hid hst4
  clear hL hst4 hp
  rcases Nat.eq_zero_or_pos E with hE0 | hE1
  · subst hE0
    obtain ⟨hd, hk2, hk3⟩ := HOK.out rfl
    have HLI := Lib.hid (lit_is L K z (HL.out.trans hd))
    have hLlen : L.length ≤ 6000 := by rw [HL.out.trans hd, rowL_len]; omega
    have HLL := Lib.hid hLlen
    have t9 : decide (K ≤ n) = true := by simp; omega
    have t8 : decide ((0 : Int) < (K : Int)) = true := by simp; omega
    have t7 : decide (0 < K) = true := by simp; omega
    have e9 : (n : Int) - ((n - K : Nat) : Int) = (K : Int) := by omega
    have HF := Lib.hid (row_front (HV.out.gr HST.out.ch) hk3)
    have hKC : K ≤ C := by omega
    clear hd hLlen
    go_wp2_with fail
    refine (left_any B _ _ _ _ HST.out.inn).mono ?_
    rintro e w' ⟨rfl, rfl⟩
    go_wp2_with fail
    refine wp_region_held (S := fun _ => True) (by kernel_rfl) ?_
    change wpAnyH _ _ _ _ _ _ _ _ (World.drew _)
    refine wpAnyH_take (i := 0) (oi := { dst := some 73, op := .move (.tmp 15), type := _, pos := _, after := _, guard := none }) (v := .int .i64 (K : Int)) rfl (by kernel_rfl) (by kernel_rfl) (by kernel_rfl) (fun _ _ _ h => h) (Or.inl ⟨by rfl, fun w' hS => ?_⟩) trivial ?_
    · clear hS; go_simp
    simp only [Act.put, List.setIfInBounds_toArray, List.set_cons_zero, List.set_cons_succ]
    refine wpAnyH_take (i := 1) (oi := { dst := some 74, op := .binOp .gtr /-t-/3 (.tmp 73) (.const (.int .i64 0)) /-t-/3, type := _, pos := _, after := _, guard := none }) (v := .bool true) rfl (by kernel_rfl) (by kernel_rfl) (by kernel_rfl) (fun _ _ _ h => h) (Or.inl ⟨by rfl, fun w' hS => ?_⟩) trivial ?_
    · clear hS; go_simp
    simp only [Act.put, List.setIfInBounds_toArray, List.set_cons_zero, List.set_cons_succ]
    refine wpAnyH_take (i := 2) (oi := { dst := some 75, op := .move (.tmp 74), type := _, pos := _, after := _, guard := none }) (v := .bool true) rfl (by kernel_rfl) (by kernel_rfl) (by kernel_rfl) (fun _ _ _ h => h) (Or.inl ⟨by rfl, fun w' hS => ?_⟩) trivial ?_
    · clear hS; go_simp
    simp only [Act.put, List.setIfInBounds_toArray, List.set_cons_zero, List.set_cons_succ]
    refine wpAnyH_take (i := 3) (oi := { dst := some 76, op := .move (.tmp 15), type := _, pos := _, after := _, guard := some (2, true) }) (v := .int .i64 (K : Int)) rfl (by kernel_rfl) (by kernel_rfl) (by kernel_rfl) (fun _ _ _ h => h) (Or.inl ⟨by rfl, fun w' hS => ?_⟩) trivial ?_
    · clear hS; go_simp
    simp only [Act.put, List.setIfInBounds_toArray, List.set_cons_zero, List.set_cons_succ]
    refine wpAnyH_take (i := 4) (oi := { dst := some 77, op := .move (.tmp 0), type := _, pos := _, after := _, guard := some (2, true) }) (v := .slice A n C) rfl (by kernel_rfl) (by kernel_rfl) (by kernel_rfl) (fun _ _ _ h => h) (Or.inl ⟨by rfl, fun w' hS => ?_⟩) trivial ?_
    · clear hS; go_simp
    simp only [Act.put, List.setIfInBounds_toArray, List.set_cons_zero, List.set_cons_succ]
    refine wpAnyH_take (i := 5) (oi := { dst := some 78, op := .call { callee := .builtin .len, args := #[.tmp 77], argTypes := #[ /-t-/26] }, type := _, pos := _, after := _, guard := some (2, true) }) (v := .int .i64 (n : Int)) rfl (by kernel_rfl) (by kernel_rfl) (by kernel_rfl) (fun _ _ _ h => h) (Or.inl ⟨by rfl, fun w' hS => ?_⟩) trivial ?_
    · clear hS; go_simp
    simp only [Act.put, List.setIfInBounds_toArray, List.set_cons_zero, List.set_cons_succ]
    refine wpAnyH_take (i := 6) (oi := { dst := some 79, op := .binOp .leq /-t-/3 (.tmp 76) (.tmp 78) /-t-/3, type := _, pos := _, after := _, guard := some (2, true) }) (v := .bool true) rfl (by kernel_rfl) (by kernel_rfl) (by kernel_rfl) (fun _ _ _ h => h) (Or.inl ⟨by rfl, fun w' hS => ?_⟩) trivial ?_
    · clear hS; go_simp
    simp only [Act.put, List.setIfInBounds_toArray, List.set_cons_zero, List.set_cons_succ]
    refine wpAnyH_take (i := 7) (oi := { dst := some 80, op := .pick (.tmp 75) (.tmp 79) (.const (.bool false)), type := _, pos := _, after := _, guard := none }) (v := .bool true) rfl (by kernel_rfl) (by kernel_rfl) (by kernel_rfl) (fun _ _ _ h => h) (Or.inl ⟨by rfl, fun w' hS => ?_⟩) trivial ?_
    · clear hS; go_simp
    simp only [Act.put, List.setIfInBounds_toArray, List.set_cons_zero, List.set_cons_succ]
    refine wpAnyH_take (i := 8) (oi := { dst := some 81, op := .move (.tmp 80), type := _, pos := _, after := _, guard := none }) (v := .bool true) rfl (by kernel_rfl) (by kernel_rfl) (by kernel_rfl) (fun _ _ _ h => h) (Or.inl ⟨by rfl, fun w' hS => ?_⟩) trivial ?_
    · clear hS; go_simp
    simp only [Act.put, List.setIfInBounds_toArray, List.set_cons_zero, List.set_cons_succ]
    refine wpAnyH_take (i := 9) (oi := { dst := some 82, op := .move (.tmp 7), type := _, pos := _, after := _, guard := some (8, true) }) (v := .pointer (some ⟨w2.heap.size, 0, none⟩)) rfl (by kernel_rfl) (by kernel_rfl) (by kernel_rfl) (fun _ _ _ h => h) (Or.inl ⟨by rfl, fun w' hS => ?_⟩) trivial ?_
    · clear hS; go_simp
    simp only [Act.put, List.setIfInBounds_toArray, List.set_cons_zero, List.set_cons_succ]
    refine wpAnyH_take (i := 11) (oi := { dst := some 84, op := .move (.tmp 0), type := _, pos := _, after := _, guard := some (8, true) }) (v := .slice A n C) rfl (by kernel_rfl) (by kernel_rfl) (by kernel_rfl) (fun _ _ _ h => h) (Or.inl ⟨by rfl, fun w' hS => ?_⟩) trivial ?_
    · clear hS; go_simp
    simp only [Act.put, List.setIfInBounds_toArray, List.set_cons_zero, List.set_cons_succ]
    refine wpAnyH_take (i := 12) (oi := { dst := some 85, op := .move (.tmp 15), type := _, pos := _, after := _, guard := some (8, true) }) (v := .int .i64 (K : Int)) rfl (by kernel_rfl) (by kernel_rfl) (by kernel_rfl) (fun _ _ _ h => h) (Or.inl ⟨by rfl, fun w' hS => ?_⟩) trivial ?_
    · clear hS; go_simp
    simp only [Act.put, List.setIfInBounds_toArray, List.set_cons_zero, List.set_cons_succ]
    refine wpAnyH_take (i := 13) (oi := { dst := some 86, op := .slice /-t-/26 (.tmp 84) none (some (.tmp 85)) none, type := _, pos := _, after := _, guard := some (8, true) }) (v := .slice A K C) rfl (by kernel_rfl) (by kernel_rfl) (by kernel_rfl) (fun _ _ _ h => h) (Or.inl ⟨by rfl, fun w' hS => ?_⟩) trivial ?_
    · clear hS; go_simp
    simp only [Act.put, List.setIfInBounds_toArray, List.set_cons_zero, List.set_cons_succ]
    refine wpAnyH_ready (rs := [10]) (by kernel_rfl) (by simp) ?_
    refine AllReadyH.cons rfl (fun K' hK => ?_) AllReadyH.nil
    go_simp
    refine (all_any w.heap.size w2.heap.size v4 L _ (HST.out.out.ch (Ch.refl (fun _ => False) w4).drew (fun _ _ f => f)) (by have := HLL.out; omega)).mono ?_
    rintro e5 w5 ⟨y5, rfl, h5, hch5⟩
    have hr5 := ownsRow_rowV h5 (by have := HLL.out; omega) (fun c _ => litZ_b HST.out.out.byt c)
    obtain ⟨A5, C5, rfl, _⟩ := id hr5
    refine hK.out _ _ trivial (fun _ => ?_)
    clear hK K'
    refine wpAnyH_ready (rs := [14]) (by kernel_rfl) (by simp) ?_
    refine AllReadyH.cons rfl (fun K' hK => ?_) AllReadyH.nil
    go_simp
    refine (same_any _ _ _ _ _ _ _ _ _ hr5 (HF.out.gr ((Ch.refl _ w4).drew.trans hch5))).mono ?_
    rintro e6 w6 ⟨rfl, d6, rfl⟩
    rw [HLI.out]
    refine hK.out _ _ trivial (fun _ => ?_)
    clear hK K'
    refine wpAnyH_ready (rs := [15]) (by kernel_rfl) (by simp) ?_
    refine AllReadyH.cons rfl (fun K' hK => ?_) AllReadyH.nil
    go_simp
    refine hK.out _ _ trivial (fun _ => ?_)
    clear hK K'
    refine wpAnyH_ready (rs := [16]) (by kernel_rfl) (by simp) ?_
    refine AllReadyH.cons rfl (fun K' hK => ?_) AllReadyH.nil
    go_simp
    refine hK.out _ _ trivial (fun _ => ?_)
    clear hK K'
    refine wpAnyH_done (by kernel_rfl) ?_ _
    go_wp2
    go_ret
    exact ⟨rfl, (HST.out.ch.drew.trans hch5).drewN d6⟩
  · obtain rfl := HBAD.out (by omega)
    have t2 : ((E : Int) != 0) = true := by simp; omega
    have t3 : ((n : Int) == (n : Int)) = true := by simp
    go_wp2_with fail
    refine (left_any B _ _ _ _ HST.out.inn).mono ?_
    rintro e w' ⟨rfl, rfl⟩
    rw [Nat.sub_zero]
    go_wp2
    go_ret
    exact ⟨rfl, HST.out.ch⟩
#print axioms only_int1
set_option maxHeartbeats 1600000 in
set_option maxRecDepth 100000 in
theorem only_bytes2 (A : Option Addr) (n C : Nat) (z : Nat → Nat) (k e : Nat) (w : World) (h : RowV w (.slice A n C) n z) (hn : n ≤ 6000) (hr : Rd n z k e) (kd : Int) (hk0 : ¬ kd = 0) (hk1 : ¬ kd = 1) : Calls Try.prog 6 #[.slice A n C, .int .i64 kd] w (Told w) := by
  have HV := Lib.hid h
  have HR := Lib.hid hr
  have hl : n ≤ C := by obtain ⟨_, _, e1, hl, _⟩ := h; injection e1 with _ _ e1; rw [e1]; exact hl.2
  have t1 : decide ((6000 : Int) < (n : Int)) = false := by simp; omega
  obtain ⟨V, hV⟩ : ∃ V, V = bL n z k e := ⟨_, rfl⟩
  obtain ⟨K, hK⟩ : ∃ K, K = bK n z k e := ⟨_, rfl⟩
  obtain ⟨E, hEE⟩ : ∃ E, E = bE n z k e := ⟨_, rfl⟩
  obtain ⟨y, hy⟩ : ∃ y, y = fun i => z (resK T63 z k e + i) := ⟨_, rfl⟩
  have HOK : Hid (E = 0 → byL V y = rowL K z ∧ 0 < K ∧ K ≤ n) := fun q => by rw [hV, hK, hy]; exact only_bytes hr h.bytes (hEE ▸ q)
  have HBAD : Hid (¬ E = 0 → K = 0) := fun q => by rw [hK]; exact (b_bad (hEE ▸ q)).2
  have HVL : V ≤ 4096 := by
    rw [hV]
    by_cases q : bE n z k e = 0
    · obtain ⟨q1, _, _, q2, _⟩ := b_ok q; omega
    · rw [(b_bad q).1]; omega
  have HG := Lib.hid (fun W B x (hI : InIs W B x n z) => ibytes_any B n x z k e W hI hr (by omega))
  unfold BytesPost at HG
  rw [← hV, ← hK, ← hEE, ← hy] at HG
  have t5 : (kd == 0) = false := by simpa using hk0
  have t6 : (kd == 1) = false := by simpa using hk1
  obtain ⟨L, hL⟩ : ∃ L, L = byL V y := ⟨_, rfl⟩
  clear h hr hV hK hEE hy hk0 hk1
  go_enter Try.func6, Try.ntmps6
  go_wp2_with fail
  refine (awake_any _).mono ?_
  rintro e w1 ⟨rfl, hch1⟩
  have HC1 := Lib.hid hch1
  clear hch1
  go_wp2_with fail
  refine (newIn_any _ n _ z _ (HV.out.gr HC1.out) (by omega)).mono ?_
  rintro e w2 ⟨B, x, rfl, h2, hB2, hch2⟩
  have HI := Lib.hid (h2.gr ((Ch.refl _ w2).alloc #[.slice none 0 0] 28))
  have HC2 := Lib.hid ((HC1.out.trans hch2).alloc #[.slice none 0 0] 28)
  have HO := Lib.hid (nil_out w.heap.size w2 (HC1.out.trans hch2).size)
  have HB1 := Lib.hid (show w.heap.size ≤ B from Nat.le_trans HC1.out.size hB2)
  have HB2 := Lib.hid (show B < w2.heap.size from h2.box.lt)
  have HX := Lib.hid (show Off (fun i => i = w2.heap.size) x from h2.row.low.mono (fun i hi => by omega))
  clear h2 hB2 hch2 HC1
  have HFT : Hid (∀ i, Foot w2.heap.size (.slice none 0 0) i → i = w2.heap.size) := fun i hi => by
    rcases hi with q | q
    · exact q
    · cases q
  go_wp2_with fail
  refine (HG.out _ B x HI.out).mono ?_
  rintro e' w3 ⟨yv, rfl, hyr, hyo, x3, h3, ho3, hch3⟩
  obtain ⟨YA, YC, rfl, hyl, _⟩ := id hyr
  have hyl1 := hyl.1
  have HYR := Lib.hid hyr
  have HYO := Lib.hid (hyo.mono (fun i (hi : Foot w2.heap.size (.slice none 0 0) i) => show i < (w2.alloc (.cells #[.slice none 0 0] 28)).heap.size by have := HFT.out i hi; simp; omega))
  clear hyr hyo hyl
  have hst : OnlySt w w3 B w2.heap.size x3 (.slice none 0 0) n K z [] := ⟨h3, HO.out.ch hch3 (fun i hi q => by have := HFT.out i hi; have := HB2.out; omega), HC2.out.new (hch3.mono (fun i _ q => by rw [q]; exact HB1.out))⟩
  have HD3 := Lib.hid (show Off (fun i => Foot w2.heap.size (.slice none 0 0) i) x3 from ho3 _ (HX.out.mono HFT.out))
  have HS3 := Lib.hid hst
  have HSZ := Lib.hid hch3.size
  clear hst h3 ho3 hch3
  go_wp2_with fail
  refine (obytes_any w.heap.size w2.heap.size V YC YA y _ [] _ HVL HS3.out.out HYR.out HYO.out HS3.out.ch.size (Nat.zero_le _)).mono ?_
  rintro e' w4 hp
  obtain ⟨rfl, v4, hst4⟩ := only_put HS3.out HB2.out HD3.out (fun hf => by have := HFT.out _ hf; have := HB2.out; omega) hp
  rw [List.nil_append] at hst4
  have HL := Lib.hid hL
  rw [← hL] at hst4
  have HST := Lib.hid hst4
  clear hL hst4 hp
  rcases Nat.eq_zero_or_pos E with hE0 | hE1
  · subst hE0
    obtain ⟨hd, hk2, hk3⟩ := HOK.out rfl
    have HLI := Lib.hid (lit_is L K z (HL.out.trans hd))
    have hLlen : L.length ≤ 6000 := by rw [HL.out.trans hd, rowL_len]; omega
    have HLL := Lib.hid hLlen
    have t9 : decide (K ≤ n) = true := by simp; omega
    have t8 : decide ((0 : Int) < (K : Int)) = true := by simp; omega
    have t7 : decide (0 < K) = true := by simp; omega
    have e9 : (n : Int) - ((n - K : Nat) : Int) = (K : Int) := by omega
    have HF := Lib.hid (row_front (HV.out.gr HST.out.ch) hk3)
    have hKC : K ≤ C := by omega
    clear hd hLlen
    go_wp2_with fail
    refine (left_any B _ _ _ _ HST.out.inn).mono ?_
    rintro e w' ⟨rfl, rfl⟩
    go_wp2_with fail
    refine wp_region_held (S := fun _ => True) (by kernel_rfl) ?_
    change wpAnyH _ _ _ _ _ _ _ _ (World.drew _)
    refine wpAnyH_take (i := 0) (oi := { dst := some 73, op := .move (.tmp 15), type := _, pos := _, after := _, guard := none }) (v := .int .i64 (K : Int)) rfl (by kernel_rfl) (by kernel_rfl) (by kernel_rfl) (fun _ _ _ h => h) (Or.inl ⟨by rfl, fun w' hS => ?_⟩) trivial ?_
    · clear hS; go_simp
    simp only [Act.put, List.setIfInBounds_toArray, List.set_cons_zero, List.set_cons_succ]
    refine wpAnyH_take (i := 1) (oi := { dst := some 74, op := .binOp .gtr /-t-/3 (.tmp 73) (.const (.int .i64 0)) /-t-/3, type := _, pos := _, after := _, guard := none }) (v := .bool true) rfl (by kernel_rfl) (by kernel_rfl) (by kernel_rfl) (fun _ _ _ h => h) (Or.inl ⟨by rfl, fun w' hS => ?_⟩) trivial ?_
    · clear hS; go_simp
    simp only [Act.put, List.setIfInBounds_toArray, List.set_cons_zero, List.set_cons_succ]
    refine wpAnyH_take (i := 2) (oi := { dst := some 75, op := .move (.tmp 74), type := _, pos := _, after := _, guard := none }) (v := .bool true) rfl (by kernel_rfl) (by kernel_rfl) (by kernel_rfl) (fun _ _ _ h => h) (Or.inl ⟨by rfl, fun w' hS => ?_⟩) trivial ?_
    · clear hS; go_simp
    simp only [Act.put, List.setIfInBounds_toArray, List.set_cons_zero, List.set_cons_succ]
    refine wpAnyH_take (i := 3) (oi := { dst := some 76, op := .move (.tmp 15), type := _, pos := _, after := _, guard := some (2, true) }) (v := .int .i64 (K : Int)) rfl (by kernel_rfl) (by kernel_rfl) (by kernel_rfl) (fun _ _ _ h => h) (Or.inl ⟨by rfl, fun w' hS => ?_⟩) trivial ?_
    · clear hS; go_simp
    simp only [Act.put, List.setIfInBounds_toArray, List.set_cons_zero, List.set_cons_succ]
    refine wpAnyH_take (i := 4) (oi := { dst := some 77, op := .move (.tmp 0), type := _, pos := _, after := _, guard := some (2, true) }) (v := .slice A n C) rfl (by kernel_rfl) (by kernel_rfl) (by kernel_rfl) (fun _ _ _ h => h) (Or.inl ⟨by rfl, fun w' hS => ?_⟩) trivial ?_
    · clear hS; go_simp
    simp only [Act.put, List.setIfInBounds_toArray, List.set_cons_zero, List.set_cons_succ]
    refine wpAnyH_take (i := 5) (oi := { dst := some 78, op := .call { callee := .builtin .len, args := #[.tmp 77], argTypes := #[ /-t-/26] }, type := _, pos := _, after := _, guard := some (2, true) }) (v := .int .i64 (n : Int)) rfl (by kernel_rfl) (by kernel_rfl) (by kernel_rfl) (fun _ _ _ h => h) (Or.inl ⟨by rfl, fun w' hS => ?_⟩) trivial ?_
    · clear hS; go_simp
    simp only [Act.put, List.setIfInBounds_toArray, List.set_cons_zero, List.set_cons_succ]
    refine wpAnyH_take (i := 6) (oi := { dst := some 79, op := .binOp .leq /-t-/3 (.tmp 76) (.tmp 78) /-t-/3, type := _, pos := _, after := _, guard := some (2, true) }) (v := .bool true) rfl (by kernel_rfl) (by kernel_rfl) (by kernel_rfl) (fun _ _ _ h => h) (Or.inl ⟨by rfl, fun w' hS => ?_⟩) trivial ?_
    · clear hS; go_simp
    simp only [Act.put, List.setIfInBounds_toArray, List.set_cons_zero, List.set_cons_succ]
    refine wpAnyH_take (i := 7) (oi := { dst := some 80, op := .pick (.tmp 75) (.tmp 79) (.const (.bool false)), type := _, pos := _, after := _, guard := none }) (v := .bool true) rfl (by kernel_rfl) (by kernel_rfl) (by kernel_rfl) (fun _ _ _ h => h) (Or.inl ⟨by rfl, fun w' hS => ?_⟩) trivial ?_
    · clear hS; go_simp
    simp only [Act.put, List.setIfInBounds_toArray, List.set_cons_zero, List.set_cons_succ]
    refine wpAnyH_take (i := 8) (oi := { dst := some 81, op := .move (.tmp 80), type := _, pos := _, after := _, guard := none }) (v := .bool true) rfl (by kernel_rfl) (by kernel_rfl) (by kernel_rfl) (fun _ _ _ h => h) (Or.inl ⟨by rfl, fun w' hS => ?_⟩) trivial ?_
    · clear hS; go_simp
    simp only [Act.put, List.setIfInBounds_toArray, List.set_cons_zero, List.set_cons_succ]
    refine wpAnyH_take (i := 9) (oi := { dst := some 82, op := .move (.tmp 7), type := _, pos := _, after := _, guard := some (8, true) }) (v := .pointer (some ⟨w2.heap.size, 0, none⟩)) rfl (by kernel_rfl) (by kernel_rfl) (by kernel_rfl) (fun _ _ _ h => h) (Or.inl ⟨by rfl, fun w' hS => ?_⟩) trivial ?_
    · clear hS; go_simp
    simp only [Act.put, List.setIfInBounds_toArray, List.set_cons_zero, List.set_cons_succ]
    refine wpAnyH_take (i := 11) (oi := { dst := some 84, op := .move (.tmp 0), type := _, pos := _, after := _, guard := some (8, true) }) (v := .slice A n C) rfl (by kernel_rfl) (by kernel_rfl) (by kernel_rfl) (fun _ _ _ h => h) (Or.inl ⟨by rfl, fun w' hS => ?_⟩) trivial ?_
    · clear hS; go_simp
    simp only [Act.put, List.setIfInBounds_toArray, List.set_cons_zero, List.set_cons_succ]
    refine wpAnyH_take (i := 12) (oi := { dst := some 85, op := .move (.tmp 15), type := _, pos := _, after := _, guard := some (8, true) }) (v := .int .i64 (K : Int)) rfl (by kernel_rfl) (by kernel_rfl) (by kernel_rfl) (fun _ _ _ h => h) (Or.inl ⟨by rfl, fun w' hS => ?_⟩) trivial ?_
    · clear hS; go_simp
    simp only [Act.put, List.setIfInBounds_toArray, List.set_cons_zero, List.set_cons_succ]
    refine wpAnyH_take (i := 13) (oi := { dst := some 86, op := .slice /-t-/26 (.tmp 84) none (some (.tmp 85)) none, type := _, pos := _, after := _, guard := some (8, true) }) (v := .slice A K C) rfl (by kernel_rfl) (by kernel_rfl) (by kernel_rfl) (fun _ _ _ h => h) (Or.inl ⟨by rfl, fun w' hS => ?_⟩) trivial ?_
    · clear hS; go_simp
    simp only [Act.put, List.setIfInBounds_toArray, List.set_cons_zero, List.set_cons_succ]
    refine wpAnyH_ready (rs := [10]) (by kernel_rfl) (by simp) ?_
    refine AllReadyH.cons rfl (fun K' hK => ?_) AllReadyH.nil
    go_simp
    refine (all_any w.heap.size w2.heap.size v4 L _ (HST.out.out.ch (Ch.refl (fun _ => False) w4).drew (fun _ _ f => f)) (by have := HLL.out; omega)).mono ?_
    rintro e5 w5 ⟨y5, rfl, h5, hch5⟩
    have hr5 := ownsRow_rowV h5 (by have := HLL.out; omega) (fun c _ => litZ_b HST.out.out.byt c)
    obtain ⟨A5, C5, rfl, _⟩ := id hr5
    refine hK.out _ _ trivial (fun _ => ?_)
    clear hK K'
    refine wpAnyH_ready (rs := [14]) (by kernel_rfl) (by simp) ?_
    refine AllReadyH.cons rfl (fun K' hK => ?_) AllReadyH.nil
    go_simp
    refine (same_any _ _ _ _ _ _ _ _ _ hr5 (HF.out.gr ((Ch.refl _ w4).drew.trans hch5))).mono ?_
    rintro e6 w6 ⟨rfl, d6, rfl⟩
    rw [HLI.out]
    refine hK.out _ _ trivial (fun _ => ?_)
    clear hK K'
    refine wpAnyH_ready (rs := [15]) (by kernel_rfl) (by simp) ?_
    refine AllReadyH.cons rfl (fun K' hK => ?_) AllReadyH.nil
    go_simp
    refine hK.out _ _ trivial (fun _ => ?_)
    clear hK K'
    refine wpAnyH_ready (rs := [16]) (by kernel_rfl) (by simp) ?_
    refine AllReadyH.cons rfl (fun K' hK => ?_) AllReadyH.nil
    go_simp
    refine hK.out _ _ trivial (fun _ => ?_)
    clear hK K'
    refine wpAnyH_done (by kernel_rfl) ?_ _
    go_wp2
    go_ret
    exact ⟨rfl, (HST.out.ch.drew.trans hch5).drewN d6⟩
  · obtain rfl := HBAD.out (by omega)
    have t2 : ((E : Int) != 0) = true := by simp; omega
    have t3 : ((n : Int) == (n : Int)) = true := by simp
    go_wp2_with fail
    refine (left_any B _ _ _ _ HST.out.inn).mono ?_
    rintro e w' ⟨rfl, rfl⟩
    rw [Nat.sub_zero]
    go_wp2
    go_ret
    exact ⟨rfl, HST.out.ch⟩
#print axioms only_bytes2
set_option maxHeartbeats 400000 in
theorem codeOnly_of (va : Value) (kd : Int) (w : World) {n : Nat} {z : Nat → Nat} (ha : RowV w va n z) (hk : -9223372036854775808 ≤ kd ∧ kd ≤ 9223372036854775807) : Calls Try.prog 6 #[va, .int .i64 kd] w (Told w) := by
  obtain ⟨A, C, rfl, hl, _⟩ := id ha
  have hl1 := hl.1
  by_cases h : n ≤ 6000
  case neg =>
    have t1 : decide ((6000 : Int) < (n : Int)) = true := by simp; omega
    clear ha hl
    go_enter Try.func6, Try.ntmps6
    go_wp2_with fail
    refine (awake_any _).mono ?_
    rintro e w1 ⟨rfl, hch1⟩
    go_wp2
    go_ret
    exact ⟨rfl, hch1⟩
  obtain ⟨k, e, hr⟩ := rd_some n z
  by_cases h0 : kd = 0
  · subst h0; exact only_num0 A n C z k e w ha h hr
  by_cases h1 : kd = 1
  · subst h1; exact only_int1 A n C z k e w ha h hr
  exact only_bytes2 A n C z k e w ha h hr kd h0 h1
#print axioms codeOnly_of
end Go.Proofs.Ytfnmdcfnojgofaa
