/-
  What a device says of itself, in plain words: which may be, the numbers of a body, a copy's sector, what a sector tells, which of four is picked. One that is handed in by value, opened; four bools.
-/
import Derived.Test.YtjdknebifcdicaaMg12
import Derived.Test.YtjdknebifcdicaaMg16
import Derived.Test.YtjdknebifcdicaaMg17
import Derived.Test.YtjdknebifcdicaaMg2
import Derived.Test.YtjdknebifcdicaaMg6
import Derived.Deep.Slices
import Derived.Deep.Fields
import Derived.ChangeSame
namespace Go.Proofs.Ytjdknebifcdicaa
open Go.RowKit
set_option linter.unusedVariables false
set_option maxRecDepth 100000

/-! ### one -/
structure Sp where
  vol : Int
  gen : Int
  ep : Int
  area : Int
  snap : Int
  long : Int
  start : Int
  chain : Int
  g : Ge
def supC (x : Sp) : Array Value := #[.int .i64 x.vol, .int .i64 x.gen, .int .i64 x.ep, .int .i64 x.area, .int .i64 x.snap, .int .i64 x.long, .int .i64 x.start, .int .i64 x.chain, .int .i64 x.g.wal, .int .i64 x.g.st, .int .i64 x.g.k, .int .i64 x.g.m]
def sp0 : Sp := ⟨0, 0, 0, 0, 0, 0, 0, 0, ⟨0, 0, 0, 0⟩⟩
def wordS (n : Int) : Bool := inB n 0 4294967295
def mayS (x : Sp) : Bool := (wordS x.vol && (wordS x.ep && (wordS x.snap && (wordS x.start && wordS x.chain)))) && (inB x.gen 1 4294967295 && (inB x.area 0 1 && (inB x.long 0 (roomG x.g) && mayG x.g)))
structure May (x : Sp) : Prop where
  vol : 0 ≤ x.vol ∧ x.vol ≤ 4294967295
  ep : 0 ≤ x.ep ∧ x.ep ≤ 4294967295
  snap : 0 ≤ x.snap ∧ x.snap ≤ 4294967295
  start : 0 ≤ x.start ∧ x.start ≤ 4294967295
  chain : 0 ≤ x.chain ∧ x.chain ≤ 4294967295
  gen : 1 ≤ x.gen ∧ x.gen ≤ 4294967295
  area : 0 ≤ x.area ∧ x.area ≤ 1
  long : 0 ≤ x.long ∧ x.long ≤ roomG x.g
  g : mayG x.g = true
theorem mayS_iff {x : Sp} : mayS x = true ↔ May x := by
  unfold mayS wordS
  simp only [Bool.and_eq_true, inB_true]
  exact ⟨fun ⟨⟨a, b, c, d, e⟩, f, g, h, i⟩ => ⟨a, b, c, d, e, f, g, h, i⟩, fun h => ⟨⟨h.vol, h.ep, h.snap, h.start, h.chain⟩, h.gen, h.area, h.long, h.g⟩⟩
theorem room_le {g : Ge} (h : mayG g = true) : roomG g ≤ 116736 := by
  obtain ⟨n, hn, rfl⟩ := may_nat h
  have b := sk_le hn
  have e1 : n.ge.st * n.ge.k = ((n.S * n.K : Nat) : Int) := by rw [Int.natCast_mul]; rfl
  unfold roomG
  rw [if_pos h, e1]
  omega

/-! ### the numbers of a body -/
def numS (x : Sp) : Nat → Int
  | 0 => x.area
  | 1 => x.snap
  | 2 => x.long
  | 3 => x.start
  | 4 => x.chain
  | 5 => x.g.wal
  | 6 => x.g.st
  | 7 => x.g.k
  | _ => x.g.m
def spOf (v g e : Int) (V : Nat → Int) : Sp := ⟨v, g, e, V 0, V 1, V 2, V 3, V 4, ⟨V 5, V 6, V 7, V 8⟩⟩
theorem spOf_own (x : Sp) : spOf x.vol x.gen x.ep (numS x) = x := rfl
theorem spOf_eq {x : Sp} {v g e : Int} {V : Nat → Int} (h1 : v = x.vol) (h2 : g = x.gen) (h3 : e = x.ep) (h : ∀ j, j < 9 → V j = numS x j) : spOf v g e V = x := by
  subst h1
  subst h2
  subst h3
  unfold spOf
  rw [h 0 (by omega), h 1 (by omega), h 2 (by omega), h 3 (by omega), h 4 (by omega), h 5 (by omega), h 6 (by omega), h 7 (by omega), h 8 (by omega)]
  rfl
theorem num_in {x : Sp} (h : mayS x = true) (j : Nat) : 0 ≤ numS x j ∧ numS x j ≤ 4294967295 := by
  have m := mayS_iff.1 h
  have r := room_le m.g
  obtain ⟨⟨a1, a2⟩, ⟨b1, b2⟩, ⟨c1, c2⟩, ⟨d1, d2⟩⟩ := may_parts m.g
  have m1 := m.area
  have m2 := m.snap
  have m3 := m.long
  have m4 := m.start
  have m5 := m.chain
  match j with
  | 0 => show 0 ≤ x.area ∧ x.area ≤ _; omega
  | 1 => show 0 ≤ x.snap ∧ x.snap ≤ _; omega
  | 2 => show 0 ≤ x.long ∧ x.long ≤ _; omega
  | 3 => show 0 ≤ x.start ∧ x.start ≤ _; omega
  | 4 => show 0 ≤ x.chain ∧ x.chain ≤ _; omega
  | 5 => show 0 ≤ x.g.wal ∧ x.g.wal ≤ _; omega
  | 6 => show 0 ≤ x.g.st ∧ x.g.st ≤ _; omega
  | 7 => show 0 ≤ x.g.k ∧ x.g.k ≤ _; omega
  | j + 8 => show 0 ≤ x.g.m ∧ x.g.m ≤ _; omega
/-- The digits of the first j numbers, and of those from the j-th on. -/
def prefL (x : Sp) (j : Nat) : List Nat := (List.range j).flatMap fun c => Cod.digs (numS x c).toNat
def restS (x : Sp) (j : Nat) : List Nat := (List.range' j (9 - j)).flatMap fun c => Cod.digs (numS x c).toNat
def bodyL (x : Sp) : List Nat := prefL x 9
theorem prefL_snoc (x : Sp) (j : Nat) : prefL x (j + 1) = prefL x j ++ Cod.digs (numS x j).toNat := by
  unfold prefL
  rw [List.range_succ, List.flatMap_append]
  simp
theorem restS_all (x : Sp) : restS x 0 = bodyL x := by
  unfold restS bodyL prefL
  rw [List.range_eq_range']
theorem restS_next (x : Sp) {j : Nat} (h : j < 9) : restS x j = Cod.digs (numS x j).toNat ++ restS x (j + 1) := by
  unfold restS
  rw [show 9 - j = (9 - (j + 1)) + 1 by omega, List.range'_succ, List.flatMap_cons]
theorem digs_len5 {n : Nat} (h : n ≤ 4294967295) : (Cod.digs n).length ≤ 5 := by
  rcases Cod.digs_len 5 n (by omega) with h | h
  · exact h
  · omega
theorem prefL_len {x : Sp} (h : mayS x = true) : ∀ j, (prefL x j).length ≤ 5 * j
  | 0 => Nat.le_refl 0
  | j + 1 => by
    have ih := prefL_len h j
    have h5 := digs_len5 (n := (numS x j).toNat) (by have := num_in h j; omega)
    rw [prefL_snoc, List.length_append]
    omega
theorem prefL_b (x : Sp) (j : Nat) : ∀ c ∈ prefL x j, c < 256 := fun c hc => by
  unfold prefL at hc
  obtain ⟨k, _, hk⟩ := List.mem_flatMap.1 hc
  exact Cod.digs_b _ c hk
theorem body_len {x : Sp} (h : mayS x = true) : (bodyL x).length ≤ 45 := prefL_len h 9

/-! ### a copy's sector -/
def placeB (i : Int) : Bool := inB i 0 3
def sokB (x : Sp) (i : Int) : Bool := mayS x && placeB i
def supB (x : Sp) (i : Int) (V : Value) : Bk := ⟨2, x.vol, i, x.ep, x.gen, V, (bodyL x).length, Cod.litZ (bodyL x)⟩
def sectS (x : Sp) (i : Int) : Nat → Nat := sectZ (supB x i undef)
def secN (x : Sp) (i : Int) : Nat := if sokB x i then 256 else 0
def secE (x : Sp) (i : Int) : Int := if sokB x i then 0 else 1
theorem sokB_iff {x : Sp} {i : Int} : sokB x i = true ↔ mayS x = true ∧ 0 ≤ i ∧ i ≤ 3 := by
  unfold sokB placeB
  rw [Bool.and_eq_true, inB_true]
theorem supB_may {x : Sp} {i : Int} (h : sokB x i = true) (V : Value) : mayB (supB x i V) = true := by
  obtain ⟨h1, h2, h3⟩ := sokB_iff.1 h
  have m := mayS_iff.1 h1
  have l := body_len h1
  refine mayB_iff.2 ⟨⟨?_, m.vol, ⟨h2, ?_⟩, m.ep, ⟨?_, m.gen.2⟩⟩, ?_⟩
  · show 1 ≤ (2 : Int) ∧ (2 : Int) ≤ 4; omega
  · show i ≤ _; omega
  · have := m.gen.1; show 0 ≤ x.gen; omega
  · show (bodyL x).length ≤ 228; omega
theorem supB_sect (x : Sp) (i : Int) (V : Value) : sectZ (supB x i V) = sectS x i := rfl
theorem sectS_b {x : Sp} {i : Int} (m : Nat) : Bytes m (sectS x i) := sectZ_b (fun c _ => Cod.litZ_b (prefL_b x 9) c) m
theorem supB_seal {x : Sp} {i : Int} (h : sokB x i = true) (V : Value) : sealN (supB x i V) = 256 ∧ sealE (supB x i V) = 0 := by
  have hm := supB_may h V
  refine ⟨by unfold sealN; rw [if_pos hm], ?_⟩
  have := sealE_may (b := supB x i V)
  rw [hm] at this
  exact of_decide_eq_true this.symm
/-- A copy's sector, new, or the error. -/
def SecPost (x : Sp) (i : Int) (w : World) (e : Ending) (w' : World) : Prop :=
  ∃ A C, e = .returned (.tuple #[.slice A (secN x i) C, .int .i64 (secE x i)]) ∧ w'.ownsRow w.heap.size /-t-/5 1 (.slice A (secN x i) C) (secN x i) (bytesL (secN x i) (sectS x i)) ∧ Ch (fun _ => False) w w'
theorem secPost_no {x : Sp} {i : Int} {w w' : World} (h : sokB x i = false) (hc : Ch (fun _ => False) w w') : SecPost x i w (.returned (.tuple #[.slice none 0 0, .int .i64 1])) w' := by
  have hN : secN x i = 0 := by unfold secN; rw [h]; rfl
  have hE : secE x i = 1 := by unfold secE; rw [h]; rfl
  exact ⟨none, 0, by rw [hN, hE], by rw [hN]; exact World.ownsRow_nil _ _ _ _, hc⟩
theorem secPost_yes {x : Sp} {i : Int} {w w1 w' : World} {e : Ending} {V : Value} (h : sokB x i = true) (hc : Ch (fun _ => False) w w1) (hp : SealPost (supB x i V) w1 e w') : SecPost x i w e w' := by
  obtain ⟨A, C, rfl, h2, h3⟩ := hp
  obtain ⟨e1, e2⟩ := supB_seal h V
  rw [e1] at h2
  have hN : secN x i = 256 := by unfold secN; rw [if_pos h]
  have hE : secE x i = 0 := by unfold secE; rw [if_pos h]
  refine ⟨A, C, by rw [e1, e2, hN, hE], ?_, hc.trans h3⟩
  rw [hN]
  obtain ⟨q0, q⟩ := h2
  exact ⟨q0, q.elim Or.inl fun ⟨g, cap, cur, q1, q2, q3⟩ => Or.inr ⟨g, cap, cur, q1, Nat.le_trans hc.size q2, q3⟩⟩

/-! ### what a sector tells -/
structure Tells (n : Nat) (z : Nat → Nat) (i : Int) (x : Sp) : Prop where
  sec : sokB x i = true
  n : n = 256
  z : ∀ c, c < 256 → z c = sectS x i c
theorem Tells.own {x : Sp} {i : Int} (h : sokB x i = true) : Tells 256 (sectS x i) i x := ⟨h, rfl, fun _ _ => rfl⟩
theorem numZ_at {z y : Nat → Nat} (h : ∀ c, c < 256 → z c = y c) {a : Nat} (ha : a + 3 < 256) : numZ z a = numZ y a := by
  unfold numZ
  rw [h a (by omega), h (a + 1) (by omega), h (a + 2) (by omega), h (a + 3) ha]
theorem readB_at {z y : Nat → Nat} (h : ∀ c, c < 256 → z c = y c) (V U : Value) : Same (readB V z) (readB U y) := by
  have hl : blkLong z = blkLong y := by unfold blkLong; rw [h 20 (by omega), h 21 (by omega)]
  have e : (readB V z).len = (readB U y).len := by
    show (if blkLong z ≤ 228 then blkLong z else 228) = (if blkLong y ≤ 228 then blkLong y else 228)
    rw [hl]
  refine ⟨?_, ?_, ?_, ?_, ?_, e, fun c hc => ?_⟩
  · show ((z 2 : Nat) : Int) = (y 2 : Nat); rw [h 2 (by omega)]
  · show ((numZ z 4 : Nat) : Int) = (numZ y 4 : Nat); rw [numZ_at h (by omega)]
  · show ((numZ z 8 : Nat) : Int) = (numZ y 8 : Nat); rw [numZ_at h (by omega)]
  · show ((numZ z 12 : Nat) : Int) = (numZ y 12 : Nat); rw [numZ_at h (by omega)]
  · show ((numZ z 16 : Nat) : Int) = (numZ y 16 : Nat); rw [numZ_at h (by omega)]
  · have : (readB U y).len ≤ 228 := by show (if blkLong y ≤ 228 then blkLong y else 228) ≤ 228; split <;> omega
    exact h (24 + c) (by omega)
theorem opensB_eq {z y : Nat → Nat} (h : ∀ c, c < 256 → z c = y c) : opensB 256 z = opensB 256 y := by
  have s := readB_at h undef undef
  have e : eqB 256 256 (sectZ (readB undef z)) z = eqB 256 256 (sectZ (readB undef y)) y := by
    unfold eqB
    refine decide_eq_decide.2 ⟨fun q => ⟨rfl, fun c hc => ?_⟩, fun q => ⟨rfl, fun c hc => ?_⟩⟩
    · rw [← h c hc, ← s.sect c]; exact q.2 c hc
    · rw [h c hc, s.sect c]; exact q.2 c hc
  rw [opensB_at, opensB_at, s.may, e]
section
variable {n : Nat} {z : Nat → Nat} {i : Int} {x : Sp}
theorem Tells.opens (h : Tells n z i x) : opensB n z = true := by
  obtain ⟨h1, rfl, h3⟩ := h
  rw [opensB_eq h3]
  exact opensB_own (supB_may h1 undef)
theorem Same.trans {a b c : Bk} (h : Same a b) (k : Same b c) : Same a c := ⟨h.kind.trans k.kind, h.vol.trans k.vol, h.addr.trans k.addr, h.epoch.trans k.epoch, h.seq.trans k.seq, h.len.trans k.len, fun j hj => (h.z j (by rw [k.len]; exact hj)).trans (k.z j hj)⟩
theorem Tells.back (h : Tells n z i x) (V : Value) : Same (readB V z) (supB x i undef) := (readB_at h.z V undef).trans (Go.Proofs.Ytjdknebifcdicaa.back (supB_may h.sec undef) undef)
end
/-- A row that is read number by number: what Y would have there. -/
def BackTo (Y : Sp → Prop) (j n : Nat) (z : Nat → Nat) : Prop := ∀ y, Y y → n = (restS y j).length ∧ ∀ i, i < n → z i = Cod.litZ (restS y j) i
theorem flat_left {P R : List Nat} {i : Nat} (h : i < P.length) : Cod.litZ (P ++ R) i = Cod.litZ P i := by rw [← Cod.litZ_app]; unfold jnZ; rw [if_pos h]
theorem flat_right (P R : List Nat) (i : Nat) : Cod.litZ (P ++ R) (P.length + i) = Cod.litZ R i := by rw [← Cod.litZ_app]; unfold jnZ; rw [if_neg (by omega), Nat.add_sub_cancel_left]
theorem BackTo.first {n : Nat} {z : Nat → Nat} {Y : Sp → Prop} (hY : ∀ y, Y y → ∃ i, Tells n z i y) (V : Value) : BackTo Y 0 (openB n z V).len (openB n z V).z := fun y hy => by
  obtain ⟨i, h⟩ := hY y hy
  rw [openB_yes h.opens, restS_all]
  have s := h.back V
  have el : (readB V z).len = (bodyL y).length := s.len
  exact ⟨el, fun c hc => s.z c (by rw [el] at hc; exact hc)⟩
theorem BackTo.next {Y : Sp → Prop} {j n k e : Nat} {z : Nat → Nat} (h : BackTo Y j n z) (hj : j < 9) (hY : ∀ y, Y y → mayS y = true) (hr : Cod.Rd n z k e) :
    BackTo Y (j + 1) (n - Cod.resK T63 z k e) (fun i => z (Cod.resK T63 z k e + i)) ∧ ∀ y, Y y → Cod.resE T63 z k e = 0 ∧ (Cod.resV T63 z k e : Int) = numS y j := by
  have key : ∀ y, Y y → Cod.resV T63 z k e = (numS y j).toNat ∧ Cod.resK T63 z k e = (Cod.digs (numS y j).toNat).length ∧ Cod.resE T63 z k e = 0 := fun y hy => by
    obtain ⟨h1, h2⟩ := h y hy
    have b := num_in (hY y hy) j
    rw [restS_next y hj] at h1 h2
    obtain ⟨r1, r2⟩ := Cod.rd_digs (m := (numS y j).toNat) (n := n) (z := z) (by omega) (fun i hi => by rw [h2 i (by rw [h1, List.length_append]; omega), flat_left hi]) (by rw [h1, List.length_append]; omega)
    obtain ⟨rfl, rfl⟩ := Cod.rd_one hr r1
    have := Cod.res_ok (top := T63) (k := (Cod.digs (numS y j).toNat).length) (e := 0) (z := z) rfl (by rw [r2]; unfold T63; omega)
    rw [r2] at this
    exact this
  refine ⟨fun y hy => ?_, fun y hy => ?_⟩
  · obtain ⟨h1, h2⟩ := h y hy
    obtain ⟨_, k2, _⟩ := key y hy
    rw [restS_next y hj] at h1 h2
    rw [k2]
    have e1 : n - (Cod.digs (numS y j).toNat).length = (restS y (j + 1)).length := by rw [h1, List.length_append]; omega
    refine ⟨e1, fun c hc => ?_⟩
    rw [e1] at hc
    show z ((Cod.digs (numS y j).toNat).length + c) = _
    rw [h2 _ (by rw [h1, List.length_append]; omega), flat_right]
  · obtain ⟨k1, _, k3⟩ := key y hy
    have b := num_in (hY y hy) j
    exact ⟨k3, by rw [k1]; omega⟩
/-- What is told: just the one that the sector is of. -/
def TellS (n : Nat) (z : Nat → Nat) (i : Int) (o : Option Sp) : Prop := ∀ y, o = some y ↔ Tells n z i y
theorem tell_one {n : Nat} {z : Nat → Nat} {i : Int} {o o' : Option Sp} (h : TellS n z i o) (k : TellS n z i o') : o = o' := by
  cases o with
  | some y => exact ((k y).2 ((h y).1 rfl)).symm
  | none =>
    cases o' with
    | none => rfl
    | some y => cases (h y).2 ((k y).1 rfl)
theorem TellS.own {x : Sp} {i : Int} {o : Option Sp} (h : TellS 256 (sectS x i) i o) (hs : sokB x i = true) : o = some x := (h x).2 (Tells.own hs)
theorem TellS.none {n : Nat} {z : Nat → Nat} {i : Int} {o : Option Sp} (h : TellS n z i o) (hn : ∀ y, ¬ Tells n z i y) : o = none := by
  cases o with
  | none => rfl
  | some y => exact absurd ((h y).1 rfl) (hn y)
def optS (o : Option Sp) : Sp := o.getD sp0

/-! ### Pick -/
def pickF (O : Nat → Option Sp) : Nat → Option Sp
  | 0 => none
  | j + 1 =>
    match O j, pickF O j with
    | none, b => b
    | some x, none => some x
    | some x, some b => if b.gen < x.gen then some x else some b
theorem pickF_congr {O O' : Nat → Option Sp} : ∀ {k : Nat}, (∀ j, j < k → O j = O' j) → pickF O k = pickF O' k
  | 0, _ => rfl
  | k + 1, h => by
    unfold pickF
    rw [h k (by omega), pickF_congr (k := k) fun j hj => h j (by omega)]
theorem pickF_none (O : Nat → Option Sp) {j : Nat} (h : O j = none) : pickF O (j + 1) = pickF O j := by
  show (match O j, pickF O j with | none, b => b | some x, none => some x | some x, some b => if b.gen < x.gen then some x else some b) = _
  rw [h]
theorem pickF_some (O : Nat → Option Sp) {j : Nat} {x : Sp} (h : O j = some x) : pickF O (j + 1) = (match pickF O j with | none => some x | some b => if b.gen < x.gen then some x else some b) := by
  show (match O j, pickF O j with | none, b => b | some x, none => some x | some x, some b => if b.gen < x.gen then some x else some b) = _
  rw [h]
  cases pickF O j <;> rfl
theorem pickF_mem (O : Nat → Option Sp) : ∀ k x, pickF O k = some x → ∃ j, j < k ∧ O j = some x
  | 0, x, h => by cases h
  | k + 1, x, h => by
    cases ho : O k with
    | none =>
      rw [pickF_none O ho] at h
      obtain ⟨j, hj, e⟩ := pickF_mem O k x h
      exact ⟨j, by omega, e⟩
    | some y =>
      rw [pickF_some O ho] at h
      cases hp : pickF O k with
      | none =>
        rw [hp] at h
        exact ⟨k, by omega, by rw [ho]; exact h⟩
      | some b =>
        rw [hp] at h
        obtain ⟨j, hj, e⟩ := pickF_mem O k b hp
        by_cases q : b.gen < y.gen
        · simp only [if_pos q] at h
          exact ⟨k, by omega, by rw [ho]; exact h⟩
        · simp only [if_neg q] at h
          exact ⟨j, by omega, e.trans h⟩
theorem pickF_le (O : Nat → Option Sp) : ∀ k x j, O j = some x → j < k → ∃ y, pickF O k = some y ∧ x.gen ≤ y.gen
  | 0, x, j, h, hj => by omega
  | k + 1, x, j, h, hj => by
    cases ho : O k with
    | none =>
      have : j < k := by
        rcases Nat.lt_or_ge j k with q | q
        · exact q
        · obtain rfl : j = k := by omega
          rw [ho] at h; cases h
      rw [pickF_none O ho]
      exact pickF_le O k x j h this
    | some y =>
      rw [pickF_some O ho]
      rcases Nat.lt_or_ge j k with q | q
      · obtain ⟨b, hb, hle⟩ := pickF_le O k x j h q
        rw [hb]
        by_cases r : b.gen < y.gen
        · exact ⟨y, by simp only [if_pos r], by omega⟩
        · exact ⟨b, by simp only [if_neg r], hle⟩
      · obtain rfl : j = k := by omega
        rw [ho] at h
        injection h with h
        subst h
        cases pickF O j with
        | none => exact ⟨y, rfl, Int.le_refl _⟩
        | some b =>
          by_cases r : b.gen < y.gen
          · exact ⟨y, by simp only [if_pos r], Int.le_refl _⟩
          · exact ⟨b, by simp only [if_neg r], by omega⟩
#print axioms BackTo.next
#print axioms pickF_le
end Go.Proofs.Ytjdknebifcdicaa
namespace Go.Proofs.Ytjdknebifcdicaa
open Go.ChangeShapes Go.WideShapes Go.ChangeAt Go.RowKit Go.Deep
set_option linter.unusedVariables false
set_option maxRecDepth 100000

theorem geo_of {H : Type} {enc : TypeId × Value → H} {W : World} {cs : List Value} {x : DataW H × List MemPlace} {fuel : Nat} (h : DataW.trod enc Try.prog W 0 (fun _ => true) true fuel 23 cs = some x) : ∃ g : Ge, cs = (geC g).toList := by
  obtain ⟨ys, n', hn', hy, hlen', hyl, hfl⟩ := DataW.trod_struct Try.underlying23 h
  have hlen4 : cs.length = 4 := by rw [hlen']; kernel_rfl
  match cs, hlen4 with
  | [x0, x1, x2, x3], _ =>
    have g0 : DataW.trod enc Try.prog W 0 (fun _ => true) true n' 3 [x0] = ys[0]? := hfl 0 _ rfl
    have g1 : DataW.trod enc Try.prog W 0 (fun _ => true) true n' 3 [x1] = ys[1]? := hfl 1 _ rfl
    have g2 : DataW.trod enc Try.prog W 0 (fun _ => true) true n' 3 [x2] = ys[2]? := hfl 2 _ rfl
    have g3 : DataW.trod enc Try.prog W 0 (fun _ => true) true n' 3 [x3] = ys[3]? := hfl 3 _ rfl
    have hys : ys.length = 4 := hyl
    match ys, hys with
    | [y0, y1, y2, y3], _ =>
      obtain ⟨a0, e0, _, w0⟩ := DataW.trod_int Try.underlying3 g0
      obtain ⟨a1, e1, _, w1⟩ := DataW.trod_int Try.underlying3 g1
      obtain ⟨a2, e2, _, w2⟩ := DataW.trod_int Try.underlying3 g2
      obtain ⟨a3, e3, _, w3⟩ := DataW.trod_int Try.underlying3 g3
      simp only [List.cons.injEq, and_true] at e0 e1 e2 e3
      refine ⟨⟨a0, a1, a2, a3⟩, ?_⟩
      rw [e0, e1, e2, e3]
      rfl
theorem super_of {H : Type} {enc : TypeId × Value → H} {W : World} {cs : List Value} {x : DataW H × List MemPlace} {fuel : Nat} (h : DataW.trod enc Try.prog W 0 (fun _ => true) true fuel 25 cs = some x) : ∃ s : Sp, cs = (supC s).toList := by
  obtain ⟨ys, n', hn', hy, hlen', hyl, hfl⟩ := DataW.trod_struct Try.underlying25 h
  have hlen12 : cs.length = 12 := by rw [hlen']; kernel_rfl
  match cs, hlen12 with
  | [x0, x1, x2, x3, x4, x5, x6, x7, x8, x9, x10, x11], _ =>
    have g0 : DataW.trod enc Try.prog W 0 (fun _ => true) true n' 3 [x0] = ys[0]? := hfl 0 _ rfl
    have g1 : DataW.trod enc Try.prog W 0 (fun _ => true) true n' 3 [x1] = ys[1]? := hfl 1 _ rfl
    have g2 : DataW.trod enc Try.prog W 0 (fun _ => true) true n' 3 [x2] = ys[2]? := hfl 2 _ rfl
    have g3 : DataW.trod enc Try.prog W 0 (fun _ => true) true n' 3 [x3] = ys[3]? := hfl 3 _ rfl
    have g4 : DataW.trod enc Try.prog W 0 (fun _ => true) true n' 3 [x4] = ys[4]? := hfl 4 _ rfl
    have g5 : DataW.trod enc Try.prog W 0 (fun _ => true) true n' 3 [x5] = ys[5]? := hfl 5 _ rfl
    have g6 : DataW.trod enc Try.prog W 0 (fun _ => true) true n' 3 [x6] = ys[6]? := hfl 6 _ rfl
    have g7 : DataW.trod enc Try.prog W 0 (fun _ => true) true n' 3 [x7] = ys[7]? := hfl 7 _ rfl
    have g8 : DataW.trod enc Try.prog W 0 (fun _ => true) true n' 23 [x8, x9, x10, x11] = ys[8]? := hfl 8 _ rfl
    have hys : ys.length = 9 := hyl
    match ys, hys with
    | [y0, y1, y2, y3, y4, y5, y6, y7, y8], _ =>
      obtain ⟨a0, e0, _, w0⟩ := DataW.trod_int Try.underlying3 g0
      obtain ⟨a1, e1, _, w1⟩ := DataW.trod_int Try.underlying3 g1
      obtain ⟨a2, e2, _, w2⟩ := DataW.trod_int Try.underlying3 g2
      obtain ⟨a3, e3, _, w3⟩ := DataW.trod_int Try.underlying3 g3
      obtain ⟨a4, e4, _, w4⟩ := DataW.trod_int Try.underlying3 g4
      obtain ⟨a5, e5, _, w5⟩ := DataW.trod_int Try.underlying3 g5
      obtain ⟨a6, e6, _, w6⟩ := DataW.trod_int Try.underlying3 g6
      obtain ⟨a7, e7, _, w7⟩ := DataW.trod_int Try.underlying3 g7
      obtain ⟨g, eg⟩ := geo_of (x := y8) g8
      simp only [List.cons.injEq, and_true] at e0 e1 e2 e3 e4 e5 e6 e7
      refine ⟨⟨a0, a1, a2, a3, a4, a5, a6, a7, g⟩, ?_⟩
      have e := congrArg (fun l => [Value.int .i64 a0, .int .i64 a1, .int .i64 a2, .int .i64 a3, .int .i64 a4, .int .i64 a5, .int .i64 a6, .int .i64 a7] ++ l) eg
      rw [e0, e1, e2, e3, e4, e5, e6, e7]
      exact e
theorem open_super {H : Type} {enc : TypeId × Value → H} {W : World} {v : Value} {d : DataW H} {p : List MemPlace} {b0 : Nat} {r : Reach} (hv : Value.okWide Try.prog W r b0 25 v) (h : DataW.Trod enc Try.prog W 0 (fun _ => true) true 25 v d p) : ∃ s : Sp, v = .agg (supC s) := by
  simp only [Value.okWide, Try.underlying25] at hv
  obtain ⟨xs, rfl, h2, _⟩ := hv
  obtain ⟨fuel, hf⟩ := h
  obtain ⟨s, hs⟩ := super_of (cs := xs.toList) hf
  exact ⟨s, by rw [show xs = supC s from Array.toList_inj.1 hs]⟩
#print axioms open_super
/-- Four bools by value. -/
def boolV (q : Nat → Bool) : Array Value := #[.bool (q 0), .bool (q 1), .bool (q 2), .bool (q 3)]
theorem four_len (l : List Value) (h : l.length = 4) : ∃ a b c d, l = [a, b, c, d] := by
  match l, h with
  | [a, b, c, d], _ => exact ⟨a, b, c, d, rfl⟩
theorem cells_four : Try.prog.cellsOf 39 = 4 := by kernel_rfl
theorem open_four {H : Type} {enc : TypeId × Value → H} {W : World} {v : Value} {d : DataW H} {p : List MemPlace} {b0 : Nat} {r : Reach} (hv : Value.okWide Try.prog W r b0 39 v) (h : DataW.Trod enc Try.prog W 0 (fun _ => true) true 39 v d p) : ∃ q : Nat → Bool, v = .agg (boolV q) := by
  simp only [Value.okWide, Try.underlying39] at hv
  obtain ⟨xs, rfl, h2, _⟩ := hv
  obtain ⟨l⟩ := xs
  have hlen4 : l.length = 4 := by
    have : l.length = Try.prog.cellsOf 39 := by simpa using h2
    exact this.trans cells_four
  obtain ⟨x0, x1, x2, x3, rfl⟩ := four_len l hlen4
  obtain ⟨fuel, hf⟩ := h
  cases fuel with
  | zero => simp [DataW.trod] at hf
  | succ m =>
    rw [DataW.trod_step] at hf
    unfold DataW.trodStep at hf
    simp only [Try.underlying39, Value.cells] at hf
    rw [if_pos (show ([x0, x1, x2, x3] : List Value).length = Try.prog.cellsOf 39 from cells_four.symm)] at hf
    simp only [Option.map_eq_some_iff] at hf
    obtain ⟨ys, hy, _⟩ := hf
    have each := Go.WideShapes.mapM_each hy
    have pick : ∀ i, i < 4 → ∃ b : Bool, [x0, x1, x2, x3][i]? = some (.bool b) := fun i hi => by
      obtain ⟨y, ey⟩ := each i (List.mem_range.2 hi)
      obtain ⟨b, eb, _⟩ := DataW.trod_bool Try.underlying4 ey
      rw [cellsL, Nat.mul_one] at eb
      have e0 := congrArg (fun l : List Value => l[0]?) eb
      simp at e0
      exact ⟨b, by rw [e0]⟩
    obtain ⟨q0, f0⟩ := pick 0 (by omega)
    obtain ⟨q1, f1⟩ := pick 1 (by omega)
    obtain ⟨q2, f2⟩ := pick 2 (by omega)
    obtain ⟨q3, f3⟩ := pick 3 (by omega)
    simp at f0 f1 f2 f3
    refine ⟨fun i => match i with | 0 => q0 | 1 => q1 | 2 => q2 | _ => q3, ?_⟩
    rw [f0, f1, f2, f3]
    rfl
#print axioms open_four
end Go.Proofs.Ytjdknebifcdicaa
