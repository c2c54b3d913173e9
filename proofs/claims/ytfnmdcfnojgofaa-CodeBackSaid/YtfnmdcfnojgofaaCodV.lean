/-
  few and put of the law's chapter, walked: calls that are handed in.
-/
import Derived.Test.YtfnmdcfnojgofaaCodW
import Derived.Test.YtfnmdcfnojgofaaOpenP
namespace Go.Proofs.Ytfnmdcfnojgofaa
open Go.RowKit Go.Shelf Cod
set_option linter.unusedVariables false

theorem RowP.at {w w' : World} {A : Option Addr} {m C : Nat} {F : Nat → PutD} (h : RowP w (.slice A m C) m F) (k : Ch (fun _ => False) w w') {i : Nat} (hi : i < m) : ∃ b o, A = some ⟨b, o, none⟩ ∧ PutAt w' b (o + i * 3) (F i) := by
  obtain ⟨_, _, e, _, h3⟩ := h
  injection e with e _ _
  subst e
  obtain ⟨b, o, rfl, h4⟩ := h3 (by omega)
  exact ⟨b, o, rfl, (h4 i hi).gr k⟩
def fewB (m : Nat) (F : Nat → PutD) : Bool := decide (m ≤ 40 ∧ ∀ c, c < m → (F c).l ≤ 5000)
set_option maxHeartbeats 800000 in
set_option maxRecDepth 100000 in
theorem few_any (A : Option Addr) (m C : Nat) (F : Nat → PutD) (w : World) (h : RowP w (.slice A m C) m F) : Calls Try.prog 9 #[.slice A m C] w (Qu (.bool (fewB m F)) w) := by
  obtain ⟨_, _, _, hl, _⟩ := id h
  have hl1 := hl.1
  have HV := Lib.hid h
  clear hl h
  by_cases e : m ≤ 40
  case neg =>
    have t1 : decide ((40 : Int) < (m : Int)) = true := by simp; omega
    have HS := Lib.hid (show fewB m F = false from decide_eq_false fun h => e h.1)
    clear e
    go_enter Try.func9, Try.ntmps9
    go_wp2
    go_ret
    exact ⟨ret_bool HS.out.symm, 0, rfl⟩
  have t1 : decide ((40 : Int) < (m : Int)) = false := by simp; omega
  go_enter Try.func9, Try.ntmps9
  go_wp2
  go_loopw [3] (fun i wr => ∃ k : Nat, k ≤ m ∧ i = .int .i64 k ∧ (∃ d, wr = w.drewN d) ∧ Hid (∀ c, c < k → (F c).l ≤ 5000)) (fun i _ => m - (intOf i).toNat)
  case atStart => exact ⟨0, Nat.zero_le _, rfl, ⟨0, rfl⟩, fun c hc => absurd hc (Nat.not_lt_zero c)⟩
  case round =>
    obtain ⟨k, hk, rfl, ⟨d, rfl⟩, HK⟩ := hrel
    by_cases hlt : k < m
    · obtain ⟨b, o, rfl, hp⟩ := HV.out.at (Ch.refl _ w) hlt
      obtain ⟨A2, C2, hV, hl2, _⟩ := id hp.row
      have hl21 := hl2.1
      have c2 := hp.c2
      rw [hV] at c2
      have i1 : (0 : Int) ≤ (k : Int) := Int.natCast_nonneg _
      have i2 : (k : Int) < (m : Int) := by omega
      obtain ⟨l, hl⟩ : ∃ l, l = (F k).l := ⟨_, rfl⟩
      rw [← hl] at c2 hl21
      clear hp hV hl2
      by_cases q : l ≤ 5000
      · have t2 : decide ((5000 : Int) < (l : Int)) = false := by simp; omega
        have HS : Hid (∀ c, c < k + 1 → (F c).l ≤ 5000) := fun c hc => by
          by_cases e : c = k
          · rw [e, ← hl]; exact q
          · exact HK c (by omega)
        clear q hl
        go_wp2
        go_roundw
        case rel => exact ⟨k + 1, by omega, by go_num, ⟨_, rfl⟩, HS⟩
        case measure => simp [intOf]; omega
      · have t2 : decide ((5000 : Int) < (l : Int)) = true := by simp; omega
        have HS := Lib.hid (show fewB m F = false from decide_eq_false fun h => q (hl ▸ h.2 k hlt))
        clear q hl
        go_wp2
        go_ret
        exact ⟨ret_bool HS.out.symm, _, rfl⟩
    · obtain rfl : k = m := by omega
      have HS := Lib.hid (show fewB k F = true from decide_eq_true ⟨e, HK.out⟩)
      go_wp2
      go_ret
      exact ⟨ret_bool HS.out.symm, _, rfl⟩
#print axioms few_any

/-! ### put -/
def putL (p : PutD) : List Nat := if p.kd = 0 then (if p.nn < 0 then [] else digs p.nn.toNat) else if p.kd = 1 then digs (turnZ p.nn) else if 4096 < p.l then [] else byL p.l p.z
def putE (p : PutD) : Int := if p.kd = 0 then (if p.nn < 0 then 1 else 0) else if p.kd = 1 then 0 else if 4096 < p.l then 2 else 0
theorem putL_len (p : PutD) (hn : -9223372036854775808 ≤ p.nn ∧ p.nn ≤ 9223372036854775807) : (putL p).length ≤ 4106 := by
  unfold putL
  split
  · split
    · simp
    · have := digs_len10 (n := p.nn.toNat) (by omega); omega
  · split
    · have := digs_len10 (turn_lt hn); omega
    · split
      · simp
      · exact byL_len (by omega) _
theorem PutPost.after {base B : Nat} {v r : Value} {L : List Nat} {w0 w w' : World} {e : Ending} (h : PutPost base B v L r w e w') (k : Ch (fun _ => False) w0 w) : PutPost base B v L r w0 e w' := by
  obtain ⟨h1, v', h2, h3, h4⟩ := h
  refine ⟨h1, v', h2, ?_, (k.mono (fun _ _ f => f.elim)).trans h4⟩
  rcases h3 with q | q
  · exact Or.inl q
  · exact Or.inr fun i e => Nat.le_trans k.size (q i e)
theorem PutPost.none {base B : Nat} {v r : Value} {L : List Nat} {w w' : World} (h : OutIs base w B v L) (k : Ch (fun _ => False) w w') : PutPost base B v (L ++ []) r w (.returned r) w' := by
  rw [List.append_nil]
  exact ⟨rfl, v, h.ch k (fun _ _ f => f), Or.inl rfl, k.mono (fun _ _ f => f.elim)⟩
def PutAny (base B : Nat) (v : Value) (L : List Nat) (p : PutD) (w : World) : Prop := Calls Try.prog 10 #[.pointer (some ⟨B, 0, none⟩), .agg #[.int .i64 p.kd, .int .i64 p.nn, p.V]] w (PutPost base B v (L ++ putL p) (.int .i64 (putE p)) w)
set_option maxHeartbeats 400000 in
theorem lput_neg (base B : Nat) (n : Int) (V v : Value) (L : List Nat) (w : World) (h : OutIs base w B v L) (hn : n < 0) :
    Calls Try.prog 10 #[.pointer (some ⟨B, 0, none⟩), .agg #[.int .i64 0, .int .i64 n, V]] w (PutPost base B v (L ++ []) (.int .i64 1) w) := by
  have H := Lib.hid h
  have HN := Lib.hid hn
  clear h hn
  go_enter Try.func10, Try.ntmps10
  go_wp2_with fail
  refine (onum_neg ⟨B, 0, none⟩ n HN.out _).mono ?_
  rintro e w1 ⟨rfl, rfl⟩
  go_wp2
  go_ret
  exact PutPost.none H.out ((Ch.refl _ w).alloc _ _)
set_option maxHeartbeats 400000 in
theorem lput_num (base B n : Nat) (V v : Value) (L : List Nat) (w : World) (h : OutIs base w B v L) (hn : n ≤ 9223372036854775807) (hb : base ≤ w.heap.size) (hL : L.length ≤ 1000000) :
    Calls Try.prog 10 #[.pointer (some ⟨B, 0, none⟩), .agg #[.int .i64 0, .int .i64 (n : Int), V]] w (PutPost base B v (L ++ digs n) (.int .i64 0) w) := by
  have HC := Lib.hid ((Ch.refl (fun _ => False) w).alloc #[.int .i64 0, .int .i64 (n : Int), V] 32)
  have H := Lib.hid (onum_any base B n v L _ hn (h.ch HC.out (fun _ _ f => f)) (Nat.le_trans hb HC.out.size) hL)
  clear h hn
  go_enter Try.func10, Try.ntmps10
  go_wp2_with fail
  refine H.out.mono ?_
  rintro e w1 hp
  obtain ⟨rfl, hp2⟩ := id (hp.after HC.out)
  have HP := Lib.hid hp2
  clear hp hp2
  go_wp2
  go_ret
  exact ⟨rfl, HP.out⟩
set_option maxHeartbeats 400000 in
theorem lput_int (base B : Nat) (n : Int) (V v : Value) (L : List Nat) (w : World) (h : OutIs base w B v L) (hn : -9223372036854775808 ≤ n ∧ n ≤ 9223372036854775807) (hb : base ≤ w.heap.size) (hL : L.length ≤ 1000000) :
    Calls Try.prog 10 #[.pointer (some ⟨B, 0, none⟩), .agg #[.int .i64 1, .int .i64 n, V]] w (PutPost base B v (L ++ digs (turnZ n)) (.int .i64 0) w) := by
  have HC := Lib.hid ((Ch.refl (fun _ => False) w).alloc #[.int .i64 1, .int .i64 n, V] 32)
  have H := Lib.hid (oint_any base B n v L _ hn (h.ch HC.out (fun _ _ f => f)) (Nat.le_trans hb HC.out.size) hL)
  clear h hn
  go_enter Try.func10, Try.ntmps10
  go_wp2_with fail
  refine H.out.mono ?_
  rintro e w1 hp
  obtain ⟨rfl, hp2⟩ := id (hp.after HC.out)
  have HP := Lib.hid hp2
  clear hp hp2
  go_wp2
  go_ret
  exact ⟨rfl, HP.out⟩
set_option maxHeartbeats 400000 in
theorem lput_long (base B : Nat) (kd n : Int) (A : Option Addr) (l C : Nat) (v : Value) (L : List Nat) (w : World) (h : OutIs base w B v L) (h0 : ¬ kd = 0) (h1 : ¬ kd = 1) (hl : 4096 < l) (hl2 : l ≤ 140737488351232) :
    Calls Try.prog 10 #[.pointer (some ⟨B, 0, none⟩), .agg #[.int .i64 kd, .int .i64 n, .slice A l C]] w (PutPost base B v (L ++ []) (.int .i64 2) w) := by
  have H := Lib.hid h
  have HN := Lib.hid hl
  have t5 : (kd == 0) = false := by simpa using h0
  have t6 : (kd == 1) = false := by simpa using h1
  clear h hl h0 h1
  go_enter Try.func10, Try.ntmps10
  go_wp2_with fail
  refine (obytes_long ⟨B, 0, none⟩ A l C HN.out hl2 _).mono ?_
  rintro e w1 ⟨rfl, rfl⟩
  go_wp2
  go_ret
  exact PutPost.none H.out ((Ch.refl _ w).alloc _ _)
set_option maxHeartbeats 400000 in
theorem lput_bytes (base B : Nat) (kd n : Int) (A : Option Addr) (l C : Nat) (z : Nat → Nat) (v : Value) (L : List Nat) (w : World) (h : OutIs base w B v L) (h0 : ¬ kd = 0) (h1 : ¬ kd = 1) (hl : l ≤ 4096) (hx : RowV w (.slice A l C) l z) (ho : Off (Foot B v) (.slice A l C)) (hb : base ≤ w.heap.size) (hL : L.length ≤ 1000000) :
    Calls Try.prog 10 #[.pointer (some ⟨B, 0, none⟩), .agg #[.int .i64 kd, .int .i64 n, .slice A l C]] w (PutPost base B v (L ++ byL l z) (.int .i64 0) w) := by
  have HC := Lib.hid ((Ch.refl (fun _ => False) w).alloc #[.int .i64 kd, .int .i64 n, .slice A l C] 32)
  have H := Lib.hid (obytes_any base B l C A z v L _ hl (h.ch HC.out (fun _ _ f => f)) (hx.gr HC.out) ho (Nat.le_trans hb HC.out.size) hL)
  have t5 : (kd == 0) = false := by simpa using h0
  have t6 : (kd == 1) = false := by simpa using h1
  clear h h0 h1 hl hx ho
  go_enter Try.func10, Try.ntmps10
  go_wp2_with fail
  refine H.out.mono ?_
  rintro e w1 hp
  obtain ⟨rfl, hp2⟩ := id (hp.after HC.out)
  have HP := Lib.hid hp2
  clear hp hp2
  go_wp2
  go_ret
  exact ⟨rfl, HP.out⟩
theorem lput_any (base B : Nat) (v : Value) (L : List Nat) (p : PutD) (w : World) (h : OutIs base w B v L) (hx : RowV w p.V p.l p.z) (hn : -9223372036854775808 ≤ p.nn ∧ p.nn ≤ 9223372036854775807) (ho : Off (Foot B v) p.V) (hb : base ≤ w.heap.size) (hL : L.length ≤ 1000000) : PutAny base B v L p w := by
  obtain ⟨kd, nn, V, l, z⟩ := p
  dsimp only at hx hn ho
  unfold PutAny putL putE
  dsimp only
  obtain ⟨A, C, rfl, hl, _⟩ := id hx
  by_cases h0 : kd = 0
  · subst h0
    rw [if_pos rfl, if_pos rfl]
    by_cases h1 : nn < 0
    · rw [if_pos h1, if_pos h1]
      exact lput_neg base B nn _ v L w h h1
    · rw [if_neg h1, if_neg h1]
      obtain ⟨n, rfl⟩ : ∃ n : Nat, nn = (n : Int) := ⟨nn.toNat, by omega⟩
      rw [Int.toNat_natCast]
      exact lput_num base B n _ v L w h (by omega) hb hL
  rw [if_neg h0, if_neg h0]
  by_cases h1 : kd = 1
  · subst h1
    rw [if_pos rfl, if_pos rfl]
    exact lput_int base B nn _ v L w h hn hb hL
  rw [if_neg h1, if_neg h1]
  by_cases h2 : 4096 < l
  · rw [if_pos h2, if_pos h2]
    exact lput_long base B kd nn A l C v L w h h0 h1 h2 hl.1
  · rw [if_neg h2, if_neg h2]
    exact lput_bytes base B kd nn A l C z v L w h h0 h1 (by omega) hx ho hb hL
#print axioms lput_any
end Go.Proofs.Ytfnmdcfnojgofaa
