/-
  batch: changes as bytes, and bytes as changes, in plain words.
-/
import Derived.Test.YtkpahhioiefcbaaMb9
namespace Go.Proofs.Ytkpahhioiefcbaa
open Go.RowKit
set_option linter.unusedVariables false
set_option maxRecDepth 100000

/-! ### a text's bytes -/
def zS (s : ByteArray) (c : Nat) : Nat := (s.data.toList.getD c 0).toNat
theorem zS_b (s : ByteArray) (c : Nat) : zS s c < 256 := UInt8.toNat_lt _
theorem text_list (l : Nat) (z : Nat → Nat) : (textOf l z).data.toList = (List.range l).map fun c => UInt8.ofNat (z c) := by
  show (((List.range l).map fun c => (z c : Int)).map (fun n => UInt8.ofNat n.toNat)).toArray.toList = _
  simp [Function.comp_def]
theorem text_size (l : Nat) (z : Nat → Nat) : (textOf l z).size = l := by
  have := congrArg List.length (text_list l z)
  simpa using this
theorem zS_text {l : Nat} {z : Nat → Nat} (hz : Bytes l z) {c : Nat} (hc : c < l) : zS (textOf l z) c = z c := by
  unfold zS
  rw [text_list, List.getD, List.getElem?_map, List.getElem?_range hc]
  have := hz c hc
  simp [UInt8.toNat_ofNat']
  omega
theorem text_zS (s : ByteArray) : textOf s.size (zS s) = s := by
  have h : (textOf s.size (zS s)).data.toList = s.data.toList := by
    rw [text_list]
    refine List.ext_getElem? fun i => ?_
    rw [List.getElem?_map]
    by_cases hi : i < s.size
    · have hi2 : i < s.data.toList.length := by simpa using hi
      rw [List.getElem?_range hi, List.getElem?_eq_getElem hi2]
      show some (UInt8.ofNat (zS s i)) = _
      unfold zS
      rw [List.getD, List.getElem?_eq_getElem hi2]
      simp
    · have h1 : (List.range s.size)[i]? = none := List.getElem?_eq_none (by simpa using hi)
      have h2 : s.data.toList[i]? = none := List.getElem?_eq_none (by simpa using hi)
      rw [h1, h2]
      rfl
  cases s with
  | mk d =>
    cases ht : textOf (ByteArray.mk d).size (zS (ByteArray.mk d)) with
    | mk e =>
      rw [ht] at h
      have : e = d := by
        have := congrArg List.toArray h
        simpa using this
      rw [this]
theorem rowL_text {l : Nat} {z : Nat → Nat} (hz : Bytes l z) : rowL (textOf l z).size (zS (textOf l z)) = rowL l z := by
  unfold rowL
  rw [text_size]
  refine List.map_congr_left fun c hc => ?_
  exact zS_text hz (List.mem_range.1 hc)
def byS (s : ByteArray) : List Nat := byL s.size (zS s)
theorem byS_text {l : Nat} {z : Nat → Nat} (hz : Bytes l z) : byS (textOf l z) = byL l z := by
  unfold byS byL
  rw [rowL_text hz, text_size]

/-! ### changes as bytes -/
/-- A change: its key, its value, is it tto go. -/
abbrev ChV := ByteArray × ByteArray × Bool
def okC (x : ChV) : Prop := x.1.size ≤ 4096 ∧ (x.2.2 = false → x.2.1.size ≤ 4096)
def okB (L : List ChV) : Prop := L.length ≤ 4096 ∧ ∀ x ∈ L, okC x
def encC (x : ChV) : List Nat := byS x.1 ++ (if x.2.2 then [0] else 1 :: byS x.2.1)
def encL (L : List ChV) : List Nat := L.flatMap encC
def encB (L : List ChV) : List Nat := Cod.digs L.length ++ encL L
theorem encL_cons (x : ChV) (L : List ChV) : encL (x :: L) = encC x ++ encL L := rfl
theorem encL_snoc (L : List ChV) (x : ChV) : encL (L ++ [x]) = encL L ++ encC x := by simp [encL]
def norC (x : ChV) : ChV := (x.1, if x.2.2 then ByteArray.empty else x.2.1, x.2.2)

/-! ### bytes as changes -/
def tl (z : Nat → Nat) (k : Nat) : Nat → Nat := fun i => z (k + i)
theorem tl_tl (z : Nat → Nat) (a b : Nat) : tl (tl z a) b = tl z (a + b) := funext fun i => by unfold tl; rw [Nat.add_assoc]
theorem tl_zero (z : Nat → Nat) : tl z 0 = z := funext fun i => by unfold tl; rw [Nat.zero_add]
theorem tl_lit (P R : List Nat) : tl (Cod.litZ (P ++ R)) P.length = Cod.litZ R := funext fun i => by
  unfold tl Cod.litZ
  rw [List.getD, List.getD, List.getElem?_append_right (by omega), Nat.add_sub_cancel_left]
theorem tl_b {n k : Nat} {z : Nat → Nat} (h : Bytes n z) : Bytes (n - k) (tl z k) := fun c hc => h (k + c) (by omega)
theorem rowL_add (a b : Nat) (z : Nat → Nat) : rowL (a + b) z = rowL a z ++ rowL b (tl z a) := by
  unfold rowL
  rw [List.range_add, List.map_append, List.map_map]
  rfl
theorem rowL_congr {l : Nat} {z y : Nat → Nat} (h : ∀ c, c < l → z c = y c) : rowL l z = rowL l y := List.map_congr_left fun c hc => h c (List.mem_range.1 hc)
noncomputable def rK (n : Nat) (z : Nat → Nat) : Nat := Classical.choose (Cod.rd_some n z)
noncomputable def rE (n : Nat) (z : Nat → Nat) : Nat := Classical.choose (Classical.choose_spec (Cod.rd_some n z))
theorem rd_rk (n : Nat) (z : Nat → Nat) : Cod.Rd n z (rK n z) (rE n z) := Classical.choose_spec (Classical.choose_spec (Cod.rd_some n z))
theorem rk_eq {n k e : Nat} {z : Nat → Nat} (h : Cod.Rd n z k e) : rK n z = k ∧ rE n z = e := Cod.rd_one (rd_rk n z) h
/-- A number at the front: what is wrong, the number, how much it takes. -/
noncomputable def gE (n : Nat) (z : Nat → Nat) : Nat := Cod.resE T63 z (rK n z) (rE n z)
noncomputable def gV (n : Nat) (z : Nat → Nat) : Nat := Cod.resV T63 z (rK n z) (rE n z)
noncomputable def gK (n : Nat) (z : Nat → Nat) : Nat := Cod.resK T63 z (rK n z) (rE n z)
/-- Bytes at the front: what is wrong, how many, how much they take, the text. -/
noncomputable def hE (n : Nat) (z : Nat → Nat) : Nat := bE n z (rK n z) (rE n z)
noncomputable def hL (n : Nat) (z : Nat → Nat) : Nat := bL n z (rK n z) (rE n z)
noncomputable def hK (n : Nat) (z : Nat → Nat) : Nat := bK n z (rK n z) (rE n z)
noncomputable def hT (n : Nat) (z : Nat → Nat) : ByteArray := textOf (hL n z) fun i => z (gK n z + i)
theorem g_ok {n : Nat} {z : Nat → Nat} (h : gE n z = 0) : rE n z = 0 ∧ gV n z = Cod.val z (rK n z) ∧ gK n z = rK n z ∧ gV n z ≤ T63 ∧ gK n z ≤ n := by
  unfold gE at h
  have hr := rd_rk n z
  unfold Cod.resE at h
  by_cases he : rE n z = 0
  · rw [if_pos he] at h
    by_cases hv : Cod.val z (rK n z) ≤ T63
    · have hs := Cod.res_ok he hv
      refine ⟨he, hs.1, hs.2.1, by unfold gV; rw [hs.1]; exact hv, ?_⟩
      unfold gK
      rw [hs.2.1]
      rw [he] at hr
      exact (Cod.rd_ok_short hr).2.1
    · rw [if_neg hv] at h; omega
  · rw [if_neg he] at h; exact absurd h he
theorem h_ok {n : Nat} {z : Nat → Nat} (h : hE n z = 0) : gE n z = 0 ∧ hL n z = gV n z ∧ hK n z = gK n z + gV n z ∧ gV n z ≤ 4096 ∧ hK n z ≤ n := by
  obtain ⟨h1, h2, h3, h4, h5⟩ := b_ok h
  have hg := g_ok h3
  refine ⟨h3, h1, h2, h4, ?_⟩
  have e : hK n z = gK n z + gV n z := h2
  have h5' : gV n z ≤ n - gK n z := h5
  have := hg.2.2.2.2
  omega
theorem g_back {n : Nat} {z : Nat → Nat} (h : gE n z = 0) (hb : Bytes n z) : Cod.digs (gV n z) = rowL (gK n z) z := by
  obtain ⟨h1, h2, h3, _, _⟩ := g_ok h
  have hr := rd_rk n z
  rw [h1] at hr
  rw [h2, h3, Cod.digs_val hr hb]
  rfl
theorem h_back {n : Nat} {z : Nat → Nat} (h : hE n z = 0) (hb : Bytes n z) : byS (hT n z) = rowL (hK n z) z ∧ (hT n z).size ≤ 4096 := by
  obtain ⟨h1, h2, h3, h4, h5⟩ := h_ok h
  have hg := (g_ok h1).2.2.2.2
  have hbt : Bytes (hL n z) fun i => z (gK n z + i) := fun c hc => hb _ (by omega)
  unfold hT
  refine ⟨?_, by rw [text_size, h2]; exact h4⟩
  rw [byS_text hbt, h3, rowL_add, ← g_back h1 hb, h2]
  rfl
theorem g_front {m : Nat} (hm : m ≤ 9223372036854775807) (R : List Nat) : gE (Cod.digs m ++ R).length (Cod.litZ (Cod.digs m ++ R)) = 0 ∧ gV (Cod.digs m ++ R).length (Cod.litZ (Cod.digs m ++ R)) = m ∧ gK (Cod.digs m ++ R).length (Cod.litZ (Cod.digs m ++ R)) = (Cod.digs m).length := by
  have hr := Cod.rd_digs (m := m) (n := (Cod.digs m ++ R).length) (z := Cod.litZ (Cod.digs m ++ R)) (by omega) (fun i hi => by unfold Cod.litZ; rw [List.getD, List.getD, List.getElem?_append_left hi]) (by simp)
  obtain ⟨e1, e2⟩ := rk_eq hr.1
  unfold gE gV gK
  rw [e1, e2]
  obtain ⟨h1, h2, h3⟩ := Cod.res_ok (top := T63) (k := (Cod.digs m).length) (e := 0) (z := Cod.litZ (Cod.digs m ++ R)) rfl (by rw [hr.2]; exact hm)
  exact ⟨h3, by rw [h1, hr.2], h2⟩
theorem h_front {s : ByteArray} (hs : s.size ≤ 4096) (R : List Nat) : hE (byS s ++ R).length (Cod.litZ (byS s ++ R)) = 0 ∧ hT (byS s ++ R).length (Cod.litZ (byS s ++ R)) = s ∧ hK (byS s ++ R).length (Cod.litZ (byS s ++ R)) = (byS s).length := by
  have e : byS s ++ R = Cod.digs s.size ++ (rowL s.size (zS s) ++ R) := by unfold byS byL; rw [List.append_assoc]
  have hl : (byS s).length = (Cod.digs s.size).length + s.size := by unfold byS byL; rw [List.length_append, rowL_len]
  obtain ⟨g1, g2, g3⟩ := g_front (m := s.size) (by omega) (rowL s.size (zS s) ++ R)
  rw [← e] at g1 g2 g3
  have hE0 : hE (byS s ++ R).length (Cod.litZ (byS s ++ R)) = 0 := bE_fine g1 (by show gV _ _ ≤ _; rw [g2]; exact hs) (by
    show gV _ _ ≤ _ - gK _ _
    rw [g2, g3, List.length_append, hl]; omega)
  obtain ⟨h1, h2, h3, _, _⟩ := h_ok hE0
  refine ⟨hE0, ?_, by rw [h3, g2, g3, hl]⟩
  unfold hT
  rw [h2, g2, g3]
  have : textOf s.size (fun i => Cod.litZ (byS s ++ R) ((Cod.digs s.size).length + i)) = textOf s.size (zS s) := by
    refine (text_inj (fun c hc => ?_) (fun c _ => zS_b s c)).2 ⟨rfl, fun c hc => ?_⟩
    · have := congrFun (tl_lit (Cod.digs s.size) (rowL s.size (zS s) ++ R)) c
      rw [← e] at this
      show tl (Cod.litZ (byS s ++ R)) (Cod.digs s.size).length c < 256
      rw [this]
      unfold Cod.litZ
      rw [List.getD, List.getElem?_append_left (by rw [rowL_len]; exact hc)]
      unfold rowL
      rw [List.getElem?_map, List.getElem?_range hc]
      exact zS_b s c
    · have := congrFun (tl_lit (Cod.digs s.size) (rowL s.size (zS s) ++ R)) c
      rw [← e] at this
      show tl (Cod.litZ (byS s ++ R)) (Cod.digs s.size).length c = zS s c
      rw [this]
      unfold Cod.litZ
      rw [List.getD, List.getElem?_append_left (by rw [rowL_len]; exact hc)]
      unfold rowL
      rw [List.getElem?_map, List.getElem?_range hc]
      rfl
  rw [this, text_zS]
#print axioms h_front
/-! ### one change -/
noncomputable def oN1 (n : Nat) (z : Nat → Nat) : Nat := n - hK n z
noncomputable def oZ1 (n : Nat) (z : Nat → Nat) : Nat → Nat := tl z (hK n z)
noncomputable def oV (n : Nat) (z : Nat → Nat) : Nat := gV (oN1 n z) (oZ1 n z)
noncomputable def oN2 (n : Nat) (z : Nat → Nat) : Nat := oN1 n z - gK (oN1 n z) (oZ1 n z)
noncomputable def oZ2 (n : Nat) (z : Nat → Nat) : Nat → Nat := tl (oZ1 n z) (gK (oN1 n z) (oZ1 n z))
/-- What is wrong with a change, how much it takes, the change. -/
noncomputable def oE (n : Nat) (z : Nat → Nat) : Nat := if hE n z = 0 then (if gE (oN1 n z) (oZ1 n z) = 0 then (if oV n z ≤ 1 then (if oV n z = 1 then hE (oN2 n z) (oZ2 n z) else 0) else 7) else gE (oN1 n z) (oZ1 n z)) else hE n z
noncomputable def oK (n : Nat) (z : Nat → Nat) : Nat := hK n z + (gK (oN1 n z) (oZ1 n z) + if oV n z = 1 then hK (oN2 n z) (oZ2 n z) else 0)
noncomputable def oX (n : Nat) (z : Nat → Nat) : ChV := (hT n z, if oV n z = 1 then hT (oN2 n z) (oZ2 n z) else ByteArray.empty, oV n z == 0)
theorem o_ok {n : Nat} {z : Nat → Nat} (h : oE n z = 0) : hE n z = 0 ∧ gE (oN1 n z) (oZ1 n z) = 0 ∧ ((oV n z = 0) ∨ (oV n z = 1 ∧ hE (oN2 n z) (oZ2 n z) = 0)) := by
  unfold oE at h
  by_cases h1 : hE n z = 0
  · rw [if_pos h1] at h
    by_cases h2 : gE (oN1 n z) (oZ1 n z) = 0
    · rw [if_pos h2] at h
      by_cases h3 : oV n z ≤ 1
      · rw [if_pos h3] at h
        by_cases h4 : oV n z = 1
        · rw [if_pos h4] at h
          exact ⟨h1, h2, Or.inr ⟨h4, h⟩⟩
        · exact ⟨h1, h2, Or.inl (by omega)⟩
      · rw [if_neg h3] at h; omega
    · rw [if_neg h2] at h; exact absurd h h2
  · rw [if_neg h1] at h; exact absurd h h1
theorem o_back {n : Nat} {z : Nat → Nat} (h : oE n z = 0) (hb : Bytes n z) : encC (oX n z) = rowL (oK n z) z ∧ oK n z ≤ n ∧ okC (oX n z) := by
  obtain ⟨h1, h2, h3⟩ := o_ok h
  obtain ⟨a1, a2⟩ := h_back h1 hb
  have a3 := (h_ok h1).2.2.2.2
  have hb1 : Bytes (oN1 n z) (oZ1 n z) := tl_b hb
  have g1 := g_back h2 hb1
  have g2 := (g_ok h2).2.2.2.2
  have hb2 : Bytes (oN2 n z) (oZ2 n z) := tl_b hb1
  have hg : Cod.digs (oV n z) = rowL (gK (oN1 n z) (oZ1 n z)) (oZ1 n z) := g1
  have g3 : gK (oN1 n z) (oZ1 n z) ≤ n - hK n z := g2
  rcases h3 with h3 | ⟨h3, h4⟩
  · refine ⟨?_, ?_, a2, fun q => ?_⟩
    · unfold encC oX oK
      rw [h3]
      simp only [beq_self_eq_true, if_true, Nat.zero_ne_one, if_false, Nat.add_zero]
      rw [rowL_add, a1]
      congr 1
      rw [h3] at hg
      rw [← show Cod.digs 0 = [0] from Cod.digs_small (by omega)]
      exact hg
    · unfold oK
      rw [if_neg (by omega)]
      omega
    · unfold oX at q
      rw [h3] at q
      cases q
  · obtain ⟨b1, b2⟩ := h_back h4 hb2
    have b3 := (h_ok h4).2.2.2.2
    have b4 : hK (oN2 n z) (oZ2 n z) ≤ n - hK n z - gK (oN1 n z) (oZ1 n z) := b3
    refine ⟨?_, ?_, a2, fun q => ?_⟩
    · unfold encC oX oK
      rw [h3]
      simp only [if_true, show ((1 : Nat) == 0) = false from rfl, if_false, Bool.false_eq_true]
      rw [rowL_add, a1, rowL_add, b1]
      congr 1
      rw [h3] at hg
      have e1 : Cod.digs 1 = [1] := Cod.digs_small (by omega)
      rw [e1] at hg
      show [1] ++ _ = _
      rw [hg]
      rfl
    · unfold oK
      rw [if_pos h3]
      omega
    · unfold oX
      rw [if_pos h3]
      exact b2
theorem oE_b {n : Nat} {z : Nat → Nat} (h : oE n z = 0) : oK n z ≤ n ∧ 0 < oK n z := by
  obtain ⟨h1, h2, h3⟩ := o_ok h
  have a3 := (h_ok h1).2.2.2.2
  have g3 : gK (oN1 n z) (oZ1 n z) ≤ n - hK n z := (g_ok h2).2.2.2.2
  have hp : 0 < gK (oN1 n z) (oZ1 n z) := by
    have hr := rd_rk (oN1 n z) (oZ1 n z)
    rw [(g_ok h2).1] at hr
    rw [(g_ok h2).2.2.1]
    exact (Cod.rd_ok_short hr).1
  unfold oK
  rcases h3 with h3 | ⟨h3, h4⟩
  · rw [if_neg (by omega)]; omega
  · have b4 : hK (oN2 n z) (oZ2 n z) ≤ n - hK n z - gK (oN1 n z) (oZ1 n z) := (h_ok h4).2.2.2.2
    rw [if_pos h3]; omega
theorem o_front {x : ChV} (hx : okC x) (R : List Nat) : oE (encC x ++ R).length (Cod.litZ (encC x ++ R)) = 0 ∧ oX (encC x ++ R).length (Cod.litZ (encC x ++ R)) = norC x ∧ oK (encC x ++ R).length (Cod.litZ (encC x ++ R)) = (encC x).length := by
  obtain ⟨k, v, g⟩ := x
  obtain ⟨M, hM⟩ : ∃ M, M = (if g = true then [0] else 1 :: byS v) ++ R := ⟨_, rfl⟩
  have e : encC (k, v, g) ++ R = byS k ++ M := by rw [hM]; unfold encC; rw [List.append_assoc]
  obtain ⟨a1, a2, a3⟩ := h_front hx.1 M
  rw [← e] at a1 a2 a3
  have n1 : oN1 (encC (k, v, g) ++ R).length (Cod.litZ (encC (k, v, g) ++ R)) = M.length := by unfold oN1; rw [a3, e, List.length_append, Nat.add_sub_cancel_left]
  have z1 : oZ1 (encC (k, v, g) ++ R).length (Cod.litZ (encC (k, v, g) ++ R)) = Cod.litZ M := by unfold oZ1; rw [a3, e]; exact tl_lit _ _
  cases g with
  | true =>
    have eM : M = Cod.digs 0 ++ R := by rw [hM, Cod.digs_small (by omega)]; rfl
    obtain ⟨g1, g2, g3⟩ := g_front (m := 0) (by omega) R
    rw [← eM] at g1 g2 g3
    have v0 : oV (encC (k, v, true) ++ R).length (Cod.litZ (encC (k, v, true) ++ R)) = 0 := by unfold oV; rw [n1, z1]; exact g2
    refine ⟨?_, ?_, ?_⟩
    · unfold oE
      rw [if_pos a1, v0, n1, z1, if_pos g1]
      rfl
    · unfold oX
      rw [v0, a2]
      rfl
    · unfold oK
      rw [v0, n1, z1, g3, a3, if_neg (by omega), Cod.digs_small (by omega)]
      show _ = (byS k ++ [0]).length
      rw [List.length_append]
      rfl
  | false =>
    have eM : M = Cod.digs 1 ++ (byS v ++ R) := by rw [hM, Cod.digs_small (by omega)]; rfl
    obtain ⟨g1, g2, g3⟩ := g_front (m := 1) (by omega) (byS v ++ R)
    rw [← eM] at g1 g2 g3
    have v0 : oV (encC (k, v, false) ++ R).length (Cod.litZ (encC (k, v, false) ++ R)) = 1 := by unfold oV; rw [n1, z1]; exact g2
    have n2 : oN2 (encC (k, v, false) ++ R).length (Cod.litZ (encC (k, v, false) ++ R)) = (byS v ++ R).length := by unfold oN2; rw [n1, z1, g3, eM, List.length_append, Nat.add_sub_cancel_left]
    have z2 : oZ2 (encC (k, v, false) ++ R).length (Cod.litZ (encC (k, v, false) ++ R)) = Cod.litZ (byS v ++ R) := by unfold oZ2; rw [n1, z1, g3, eM]; exact tl_lit _ _
    obtain ⟨b1, b2, b3⟩ := h_front (s := v) (hx.2 rfl) R
    refine ⟨?_, ?_, ?_⟩
    · unfold oE
      rw [if_pos a1, v0, n1, z1, if_pos g1, n2, z2]
      exact b1
    · unfold oX
      rw [v0, a2, n2, z2, b2]
      rfl
    · unfold oK
      rw [v0, n1, z1, g3, a3, n2, z2, b3]
      unfold encC
      rw [if_pos rfl, Cod.digs_small (by omega), List.length_append]
      show _ = _ + (1 :: byS v).length
      simp only [List.length_cons, List.length_nil]
      omega
#print axioms o_front
/-! ### so many -/
noncomputable def dE : Nat → Nat → (Nat → Nat) → Nat
  | 0, _, _ => 0
  | m + 1, n, z => if oE n z = 0 then dE m (n - oK n z) (tl z (oK n z)) else oE n z
noncomputable def dX : Nat → Nat → (Nat → Nat) → List ChV
  | 0, _, _ => []
  | m + 1, n, z => oX n z :: dX m (n - oK n z) (tl z (oK n z))
noncomputable def dN : Nat → Nat → (Nat → Nat) → Nat
  | 0, n, _ => n
  | m + 1, n, z => dN m (n - oK n z) (tl z (oK n z))
theorem dX_len : ∀ (m n : Nat) (z : Nat → Nat), (dX m n z).length = m
  | 0, _, _ => rfl
  | m + 1, n, z => congrArg (· + 1) (dX_len m _ _)
theorem d_back : ∀ (m : Nat) {n : Nat} {z : Nat → Nat}, dE m n z = 0 → Bytes n z → dN m n z ≤ n ∧ encL (dX m n z) = rowL (n - dN m n z) z ∧ ∀ x ∈ dX m n z, okC x
  | 0, n, z, _, _ => ⟨Nat.le_refl _, by show [] = rowL (n - n) z; rw [Nat.sub_self]; rfl, fun x hx => absurd hx (by simp [dX])⟩
  | m + 1, n, z, h, hb => by
    by_cases h1 : oE n z = 0
    · have h2 : dE m (n - oK n z) (tl z (oK n z)) = 0 := by unfold dE at h; rw [if_pos h1] at h; exact h
      obtain ⟨a1, a2, a3⟩ := o_back h1 hb
      obtain ⟨b1, b2, b3⟩ := d_back m h2 (tl_b hb)
      have e : dN (m + 1) n z = dN m (n - oK n z) (tl z (oK n z)) := rfl
      have e2 : dX (m + 1) n z = oX n z :: dX m (n - oK n z) (tl z (oK n z)) := rfl
      rw [e, e2]
      refine ⟨by omega, ?_, fun x hx => ?_⟩
      · rw [encL_cons, a1, b2, ← rowL_add]
        congr 1
        omega
      · rcases List.mem_cons.1 hx with rfl | hx
        · exact a3
        · exact b3 x hx
    · unfold dE at h; rw [if_neg h1] at h; exact absurd h h1
theorem d_front : ∀ (L : List ChV) (R : List Nat), (∀ x ∈ L, okC x) → dE L.length (encL L ++ R).length (Cod.litZ (encL L ++ R)) = 0 ∧ dX L.length (encL L ++ R).length (Cod.litZ (encL L ++ R)) = L.map norC ∧ dN L.length (encL L ++ R).length (Cod.litZ (encL L ++ R)) = R.length
  | [], R, _ => ⟨rfl, rfl, rfl⟩
  | x :: L, R, h => by
    have e : encL (x :: L) ++ R = encC x ++ (encL L ++ R) := by rw [encL_cons, List.append_assoc]
    obtain ⟨a1, a2, a3⟩ := o_front (h x (List.mem_cons_self ..)) (encL L ++ R)
    obtain ⟨b1, b2, b3⟩ := d_front L R fun y hy => h y (List.mem_cons_of_mem _ hy)
    have en : (encC x ++ (encL L ++ R)).length - (encC x).length = (encL L ++ R).length := by rw [List.length_append, Nat.add_sub_cancel_left]
    rw [e, List.length_cons]
    refine ⟨?_, ?_, ?_⟩
    · unfold dE
      rw [if_pos a1, a3, en, tl_lit]
      exact b1
    · unfold dX
      rw [a2, a3, en, tl_lit, b2]
      rfl
    · unfold dN
      rw [a3, en, tl_lit]
      exact b3
/-- All of it. -/
noncomputable def aN (n : Nat) (z : Nat → Nat) : Nat := n - gK n z
noncomputable def aZ (n : Nat) (z : Nat → Nat) : Nat → Nat := tl z (gK n z)
noncomputable def decE (n : Nat) (z : Nat → Nat) : Nat := if gE n z = 0 then (if gV n z ≤ 4096 then (if dE (gV n z) (aN n z) (aZ n z) = 0 then (if dN (gV n z) (aN n z) (aZ n z) = 0 then 0 else 7) else dE (gV n z) (aN n z) (aZ n z)) else 2) else gE n z
noncomputable def decX (n : Nat) (z : Nat → Nat) : List ChV := if decE n z = 0 then dX (gV n z) (aN n z) (aZ n z) else []
theorem dec_ok {n : Nat} {z : Nat → Nat} (h : decE n z = 0) : gE n z = 0 ∧ gV n z ≤ 4096 ∧ dE (gV n z) (aN n z) (aZ n z) = 0 ∧ dN (gV n z) (aN n z) (aZ n z) = 0 ∧ decX n z = dX (gV n z) (aN n z) (aZ n z) := by
  have e : decX n z = dX (gV n z) (aN n z) (aZ n z) := by unfold decX; rw [if_pos h]
  unfold decE at h
  by_cases h1 : gE n z = 0
  · rw [if_pos h1] at h
    by_cases h2 : gV n z ≤ 4096
    · rw [if_pos h2] at h
      by_cases h3 : dE (gV n z) (aN n z) (aZ n z) = 0
      · rw [if_pos h3] at h
        by_cases h4 : dN (gV n z) (aN n z) (aZ n z) = 0
        · exact ⟨h1, h2, h3, h4, e⟩
        · rw [if_neg h4] at h; omega
      · rw [if_neg h3] at h; exact absurd h h3
    · rw [if_neg h2] at h; omega
  · rw [if_neg h1] at h; exact absurd h h1
theorem enc_dec {n : Nat} {z : Nat → Nat} (h : decE n z = 0) (hb : Bytes n z) : encB (decX n z) = rowL n z ∧ okB (decX n z) := by
  obtain ⟨h1, h2, h3, h4, h5⟩ := dec_ok h
  have g1 := g_back h1 hb
  have g2 := (g_ok h1).2.2.2.2
  obtain ⟨b1, b2, b3⟩ := d_back (gV n z) h3 (tl_b hb)
  rw [h5]
  refine ⟨?_, by rw [dX_len]; exact h2, b3⟩
  unfold encB
  rw [dX_len, g1, b2, h4, Nat.sub_zero]
  have := (rowL_add (gK n z) (n - gK n z) z).symm
  rw [show gK n z + (n - gK n z) = n by omega] at this
  exact this
theorem dec_enc {L : List ChV} (h : okB L) : decE (encB L).length (Cod.litZ (encB L)) = 0 ∧ decX (encB L).length (Cod.litZ (encB L)) = L.map norC := by
  obtain ⟨g1, g2, g3⟩ := g_front (m := L.length) (by have := h.1; omega) (encL L)
  obtain ⟨b1, b2, b3⟩ := d_front L [] h.2
  rw [List.append_nil] at b1 b2 b3
  have e : encB L = Cod.digs L.length ++ encL L := rfl
  have en : aN (encB L).length (Cod.litZ (encB L)) = (encL L).length := by unfold aN; rw [e, g3, List.length_append, Nat.add_sub_cancel_left]
  have ez : aZ (encB L).length (Cod.litZ (encB L)) = Cod.litZ (encL L) := by unfold aZ; rw [e, g3]; exact tl_lit _ _
  have h0 : decE (encB L).length (Cod.litZ (encB L)) = 0 := by
    unfold decE
    rw [en, ez]
    rw [← e] at g1 g2
    rw [if_pos g1, g2, if_pos h.1, b1, b3]
    rfl
  refine ⟨h0, ?_⟩
  unfold decX
  rw [if_pos h0, en, ez]
  rw [← e] at g2
  rw [g2, b2]
theorem encC_b (x : ChV) : ∀ c ∈ encC x, c < 256 := by
  have hby : ∀ s : ByteArray, ∀ c ∈ byS s, c < 256 := fun s c hc => by
    unfold byS byL at hc
    rcases List.mem_append.1 hc with q | q
    · exact Cod.digs_b _ c q
    · obtain ⟨i, _, rfl⟩ := List.mem_map.1 q
      exact zS_b s i
  intro c hc
  unfold encC at hc
  rcases List.mem_append.1 hc with q | q
  · exact hby _ c q
  · split at q
    · rw [List.mem_singleton.1 q]; omega
    · rcases List.mem_cons.1 q with rfl | q
      · omega
      · exact hby _ c q
theorem encB_b (L : List ChV) : ∀ c ∈ encB L, c < 256 := fun c hc => by
  unfold encB encL at hc
  rcases List.mem_append.1 hc with q | q
  · exact Cod.digs_b _ c q
  · obtain ⟨x, _, hx⟩ := List.mem_flatMap.1 q
    exact encC_b x c hx
theorem byS_len {s : ByteArray} (h : s.size ≤ 4096) : (byS s).length ≤ 4106 := byL_len h _
theorem encC_len {x : ChV} (h : okC x) : (encC x).length ≤ 8213 := by
  unfold encC
  have h1 := byS_len h.1
  rw [List.length_append]
  cases hg : x.2.2
  · have h2 := byS_len (h.2 hg)
    simp only [Bool.false_eq_true, if_false, List.length_cons]
    omega
  · simp only [if_true, List.length_singleton]
    omega
theorem encL_len {L : List ChV} (h : ∀ x ∈ L, okC x) : (encL L).length ≤ 8213 * L.length := by
  induction L with
  | nil => exact Nat.zero_le _
  | cons x L ih =>
    rw [encL_cons, List.length_append, List.length_cons]
    have h1 := encC_len (h x (List.mem_cons_self ..))
    have h2 := ih fun y hy => h y (List.mem_cons_of_mem _ hy)
    omega
#print axioms dec_enc
end Go.Proofs.Ytkpahhioiefcbaa
