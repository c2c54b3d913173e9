/-
  (*code.Out).Num, Int, Bytes and All, walked.
-/
import Derived.Test.YtfnmdcfnojgofaaCodP
namespace Go.Proofs.Ytfnmdcfnojgofaa
open Go.RowKit Go.Shelf Cod
set_option linter.unusedVariables false

/-! ### rows that lie off some blocks -/
def Off (S : Nat → Prop) (x : Value) : Prop := ∀ b o n C, x = .slice (some ⟨b, o, none⟩) (n + 1) C → ¬ S b
theorem Off.mono {S T : Nat → Prop} {x : Value} (h : Off S x) (k : ∀ i, T i → S i) : Off T x := fun b o n C e t => h b o n C e (k b t)
theorem RowV.off {S : Nat → Prop} {w w' : World} {x : Value} {l : Nat} {z : Nat → Nat} (h : RowV w x l z) (k : Ch S w w') (hS : Off S x) : RowV w' x l z := by
  obtain ⟨A, C, rfl, h2, h3⟩ := h
  refine ⟨A, C, rfl, h2, fun hl => ?_⟩
  obtain ⟨b, o, rfl, hc⟩ := h3 hl
  refine ⟨b, o, rfl, fun c hcl => ⟨k.cell (hc c hcl).1 ?_, (hc c hcl).2⟩⟩
  obtain ⟨n, rfl⟩ : ∃ n, l = n + 1 := ⟨l - 1, by omega⟩
  exact hS b o n C rfl
theorem RowV.low {w : World} {x : Value} {l : Nat} {z : Nat → Nat} (h : RowV w x l z) : Off (fun i => w.heap.size ≤ i) x := fun b o n C e t => by
  obtain ⟨A, D, e1, _, h3⟩ := h
  rw [e] at e1
  injection e1 with e1 e2 _
  obtain ⟨b', o', e4, hc⟩ := h3 (by omega)
  rw [← e1] at e4
  injection e4 with e4
  injection e4 with e5 e6
  have := World.block_lt_of_cell? _ _ (hc 0 (by omega)).1
  simp at this
  omega
def rowL (l : Nat) (z : Nat → Nat) : List Nat := (List.range l).map z
theorem rowL_len (l : Nat) (z : Nat → Nat) : (rowL l z).length = l := by simp [rowL]
theorem rowL_b {l : Nat} {z : Nat → Nat} (h : Bytes l z) : ∀ x ∈ rowL l z, x < 256 := fun x hx => by
  obtain ⟨c, hc, rfl⟩ := List.mem_map.1 hx
  exact h c (List.mem_range.1 hc)
theorem app_lit (L : List Nat) (l : Nat) (z : Nat → Nat) : bytesL (L.length + l) (jnZ L.length (litZ L) z) = bytesL (L ++ rowL l z).length (litZ (L ++ rowL l z)) := by
  rw [List.length_append, rowL_len]
  refine bytesL_congr fun c hc => ?_
  rw [← litZ_app]
  unfold jnZ
  split
  · rfl
  · exact (litZ_range l z (by omega)).symm

/-! ### Num, Int -/
set_option maxHeartbeats 400000 in
theorem onum_nil (n : Int) (w : World) : Calls Try.prog 24 #[.pointer none, .int .i64 n] w fun e w' => e = .returned (.int .i64 1) ∧ w = w' := by
  go_enter Try.func24, Try.ntmps24
  go_wp2
  go_ret
  exact ⟨rfl, rfl⟩
set_option maxHeartbeats 400000 in
theorem onum_neg (ad : Addr) (n : Int) (hn : n < 0) (w : World) : Calls Try.prog 24 #[.pointer (some ad), .int .i64 n] w fun e w' => e = .returned (.int .i64 1) ∧ w = w' := by
  have t1 : decide (n < 0) = true := by simpa using hn
  go_enter Try.func24, Try.ntmps24
  go_wp2
  go_ret
  exact ⟨rfl, rfl⟩
set_option maxHeartbeats 400000 in
theorem onum_any (base B n : Nat) (v : Value) (L : List Nat) (w : World) (hn : n ≤ 9223372036854775807) (h : OutIs base w B v L) (hb : base ≤ w.heap.size) (hL : L.length ≤ 1000000) :
    Calls Try.prog 24 #[.pointer (some ⟨B, 0, none⟩), .int .i64 (n : Int)] w (PutPost base B v (L ++ digs n) (.int .i64 0) w) := by
  have H := Lib.hid (put_any base B n v L w (by omega) h hb hL)
  have t1 : decide ((n : Int) < 0) = false := by simp
  clear h
  go_enter Try.func24, Try.ntmps24
  go_wp2_with fail
  refine H.out.mono ?_
  rintro e w' ⟨rfl, h⟩
  have HH := Lib.hid h
  clear h
  go_wp2
  go_ret
  exact ⟨rfl, HH.out⟩
#print axioms onum_any
set_option maxHeartbeats 400000 in
theorem oint_nil (n : Int) (w : World) : Calls Try.prog 25 #[.pointer none, .int .i64 n] w fun e w' => e = .returned (.tuple #[]) ∧ w = w' := by
  go_enter Try.func25, Try.ntmps25
  go_wp2
  go_end0
  exact ⟨rfl, rfl⟩
set_option maxHeartbeats 400000 in
theorem oint_any (base B : Nat) (n : Int) (v : Value) (L : List Nat) (w : World) (hn : -9223372036854775808 ≤ n ∧ n ≤ 9223372036854775807) (h : OutIs base w B v L) (hb : base ≤ w.heap.size) (hL : L.length ≤ 1000000) :
    Calls Try.prog 25 #[.pointer (some ⟨B, 0, none⟩), .int .i64 n] w (PutPost base B v (L ++ digs (turnZ n)) (.tuple #[]) w) := by
  have H := Lib.hid (put_any base B (turnZ n) v L w (turn_lt hn) h hb hL)
  have HN := Lib.hid hn
  clear h hn
  go_enter Try.func25, Try.ntmps25
  go_wp2_with fail
  refine (turn_any n HN.out.1 HN.out.2 _).mono ?_
  rintro e w' ⟨rfl, rfl⟩
  go_wp2_with fail
  refine H.out.mono ?_
  rintro e w' ⟨rfl, h⟩
  have HH := Lib.hid h
  clear h
  go_wp2
  go_end0
  exact ⟨rfl, HH.out⟩
#print axioms oint_any

/-! ### Bytes -/
set_option maxHeartbeats 400000 in
theorem obytes_nil (x : Value) (w : World) : Calls Try.prog 26 #[.pointer none, x] w fun e w' => e = .returned (.int .i64 1) ∧ w = w' := by
  go_enter Try.func26, Try.ntmps26
  go_wp2
  go_ret
  exact ⟨rfl, rfl⟩
set_option maxHeartbeats 400000 in
theorem obytes_long (ad : Addr) (A : Option Addr) (l C : Nat) (hl : 4096 < l) (hl2 : l ≤ 140737488351232) (w : World) : Calls Try.prog 26 #[.pointer (some ad), .slice A l C] w fun e w' => e = .returned (.int .i64 2) ∧ w = w' := by
  have t1 : decide ((4096 : Int) < (l : Int)) = true := by simp; omega
  go_enter Try.func26, Try.ntmps26
  go_wp2
  go_ret
  exact ⟨rfl, rfl⟩
/-- What bytes are laid as. -/
def byL (l : Nat) (z : Nat → Nat) : List Nat := digs l ++ rowL l z
theorem byL_app (L : List Nat) (l : Nat) (z : Nat → Nat) : L ++ digs l ++ rowL l z = L ++ byL l z := List.append_assoc _ _ _
theorem byL_len {l : Nat} (h : l ≤ 4096) (z : Nat → Nat) : (byL l z).length ≤ 4106 := by
  unfold byL
  have := digs_len10 (n := l) (by omega)
  rw [List.length_append, rowL_len]
  omega
set_option maxHeartbeats 1000000 in
theorem obytes_any (base B l C : Nat) (A : Option Addr) (z : Nat → Nat) (v : Value) (L : List Nat) (w : World) (hl : l ≤ 4096) (h : OutIs base w B v L) (hx : RowV w (.slice A l C) l z) (ho : Off (Foot B v) (.slice A l C)) (hb : base ≤ w.heap.size) (hL : L.length ≤ 1000000) :
    Calls Try.prog 26 #[.pointer (some ⟨B, 0, none⟩), .slice A l C] w (PutPost base B v (L ++ byL l z) (.int .i64 0) w) := by
  have H := Lib.hid (put_any base B l v L w (by omega) h hb hL)
  have HX := Lib.hid (show Off (Foot B v) (.slice A l C) ∧ RowV w (.slice A l C) l z from ⟨ho, hx⟩)
  have HO := Lib.hid h
  have t1 : decide ((4096 : Int) < (l : Int)) = false := by simp; omega
  clear h hx ho
  go_enter Try.func26, Try.ntmps26
  go_wp2_with fail
  refine H.out.mono ?_
  rintro e w1 ⟨rfl, v1, h1, hv1, hch1⟩
  have hx1 := HX.out.2.off hch1 HX.out.1
  have hlen : (L ++ digs l).length ≤ 1000010 := by have := digs_len10 (n := l) (by omega); simp; omega
  obtain ⟨v2, w2, hr2, ho2, hg2, hv2⟩ := app_row h1.own (by have := hch1.size; omega) hx1 (by omega)
  rw [app_lit] at ho2
  obtain ⟨m1, hm1⟩ : ∃ m, (L ++ digs l).length = m + 1 := ⟨(L ++ digs l).length - 1, by have := digs_pos l; simp; omega⟩
  have hm2 : (L ++ digs l ++ rowL l z).length = m1 + l + 1 := by rw [List.length_append, hm1, rowL_len]; omega
  obtain ⟨g1, C1, rfl⟩ := ownsRow_succ (k := m1) (by have := h1.own; rw [hm1] at this; exact this)
  obtain ⟨g2, C2, rfl⟩ := ownsRow_succ (k := m1 + l) (by rw [show m1 + l + 1 = (L ++ digs l).length + l by omega]; exact ho2)
  have hb1 : Boxed w2 B 28 (.slice (some ⟨g1, 0, none⟩) (m1 + 1) C1) := h1.box.kept hg2 h1.ne
  have hch2 : Ch (Foot B v) w w2 := hch1.grown hg2 (fun i e => by
    rcases hv1 with q | q
    · exact Or.inl (Or.inr (q ▸ e))
    · exact Or.inr (q i e))
  have HB := Lib.hid (hb1.set (.slice (some ⟨g2, 0, none⟩) (m1 + l + 1) C2))
  have ho2' : w2.ownsRow base /-t-/5 1 (.slice (some ⟨g2, 0, none⟩) (m1 + l + 1) C2) (L ++ digs l ++ rowL l z).length (bytesL (L ++ digs l ++ rowL l z).length (litZ (L ++ digs l ++ rowL l z))) := by
    have e : (L ++ digs l ++ rowL l z).length = (L ++ digs l).length + l := by rw [List.length_append, rowL_len]
    rw [e] at ho2 ⊢; exact ho2
  have HW := Lib.hid (ho2'.kept (grownBy_setCell' w2 B (.slice (some ⟨g2, 0, none⟩) (m1 + l + 1) C2)) (Or.inr (hb1.not_row (by decide) ho2').symm))
  have HC := Lib.hid (hch2.setCell (p := ⟨B, 0, none⟩) (Or.inl (Or.inl rfl)) (.slice (some ⟨g2, 0, none⟩) (m1 + l + 1) C2))
  have HV := Lib.hid (show (Value.slice (some ⟨g2, 0, none⟩) (m1 + l + 1) C2).ownBlock = v.ownBlock ∨ ∀ i, (Value.slice (some ⟨g2, 0, none⟩) (m1 + l + 1) C2).ownBlock = some i → w.heap.size ≤ i by
    rcases hv2 with q | q
    · rw [q]; exact hv1
    · refine Or.inr fun i e => ?_
      rw [q] at e
      injection e with e
      have := hch1.size
      omega)
  have HBY := Lib.hid (show ∀ y ∈ L ++ digs l ++ rowL l z, y < 256 from fun y hy => by
    rcases List.mem_append.1 hy with hy | hy
    · exact h1.byt y hy
    · exact rowL_b hx1.bytes y hy)
  have HR := Lib.hid hr2
  rw [byL_app] at HW HBY
  have c1 := h1.cell
  have c2 := hb1.cell
  have f2 := hb1.frozen
  clear hr2 ho2 ho2' hg2 hv2 hv1 h1 hch1 hch2 hb1 hx1 hm1 hm2 hlen
  go_wp2_with (at_builtin; refine wpList_app_of _ rfl (.tmp 19) (.tmp 20) rfl rfl _ _ (.slice (some ⟨g2, 0, none⟩) (m1 + l + 1) C2) w2 rfl rfl HR.out ?_)
  go_ret
  exact ⟨rfl, _, ⟨HB.out, HW.out, HO.out.low, HBY.out⟩, HV.out, HC.out⟩
#print axioms obytes_any

/-! ### All -/
set_option maxHeartbeats 400000 in
theorem all_nil (w : World) : Calls Try.prog 15 #[.pointer none] w fun e w' => e = .returned (.slice none 0 0) ∧ w = w' := by
  go_enter Try.func15, Try.ntmps15
  go_wp2
  go_ret
  exact ⟨rfl, rfl⟩
set_option maxHeartbeats 400000 in
theorem all_any (base B : Nat) (v : Value) (L : List Nat) (w : World) (h : OutIs base w B v L) (hL : L.length ≤ 1048576) : Calls Try.prog 15 #[.pointer (some ⟨B, 0, none⟩)] w (NewL L.length (litZ L) w) := by
  have hr := h.rowV hL
  have c1 := h.cell
  obtain ⟨A, C, rfl, _⟩ := id hr
  have HR := Lib.hid (clone_any A L.length C (litZ L) w hr hL)
  clear hr h
  go_enter Try.func15, Try.ntmps15
  go_wp2_with fail
  refine HR.out.mono ?_
  rintro e w' ⟨x, rfl, h1, h2⟩
  have H1 := Lib.hid h1
  have H2 := Lib.hid h2
  clear h1 h2
  go_wp2
  go_ret
  exact ⟨_, rfl, H1.out, H2.out⟩
#print axioms all_any
end Go.Proofs.Ytfnmdcfnojgofaa
