/-
  Both devices side by side; law06.same, walked.
-/
import Derived.Test.YtkbhpkpacojpcaaDrK
namespace Go.Proofs.Ytkbhpkpacojpcaa
open Go.RowKit
set_option linter.unusedVariables false

/-- Behind w0 there are the program's device at B, the document's at C, apart from one another, and nothing old has turned. -/
structure Bo (w0 w : World) (B C : Nat) (d r : Dev) : Prop where
  ch : Ch (fun _ => False) w0 w
  dev : ∃ (F : Nat → Prop) (p : Ph) (q : Rh), p.B = B ∧ q.B = C ∧ DevIs w0.heap.size w p d ∧ RefIs w0.heap.size F w q r ∧ ∀ i, Foot p d i → ¬ F i
/-- With a row beside them. -/
structure BoR (w0 w : World) (B C : Nat) (d r : Dev) (v : Value) (l : Nat) (z : Nat → Nat) : Prop where
  ch : Ch (fun _ => False) w0 w
  dev : ∃ (F : Nat → Prop) (p : Ph) (q : Rh), p.B = B ∧ q.B = C ∧ DevIs w0.heap.size w p d ∧ RefIs w0.heap.size F w q r ∧ (∀ i, Foot p d i → ¬ F i) ∧ ∀ i, v.ownBlock = some i → ¬ F i
  row : RowV w v l z
section
variable {w0 w w' : World} {B C : Nat} {d r : Dev}
theorem Bo.gr (h : Bo w0 w B C d r) (k : Ch (fun _ => False) w w') : Bo w0 w' B C d r := by
  obtain ⟨F, p, q, h1, h2, h3, h4, h5⟩ := h.dev
  exact ⟨h.ch.trans k, F, p, q, h1, h2, h3.gr k, h4.gr k, h5⟩
theorem Bo.drun {d' : Dev} {rv : Value} {f : FuncId} {args : Array Value} (h : Bo w0 w B C d r) (c : ∀ p : Ph, p.B = B → DevIs w0.heap.size w p d → Calls Try.prog f args w (DPost w0.heap.size p d d' rv w)) :
    Calls Try.prog f args w fun e w' => e = .returned rv ∧ Bo w0 w' B C d' r := by
  obtain ⟨F, p, q, h1, h2, h3, h4, h5⟩ := h.dev
  refine (c p h1 h3).mono ?_
  rintro e w' ⟨rfl, p', q1, q2, q3, q4⟩
  refine ⟨rfl, h.ch.new (q4.mono fun i _ hi => (h3.foot hi).1), F, p', q, q1.trans h1, h2, q2, h4.ch q4 (fun i hi hf => h5 i hf hi), fun i hi hf => ?_⟩
  rcases q3 i hi with x | x
  · exact h5 i x hf
  · have := h4.hi i hf; omega
theorem Bo.rrun {r' : Dev} {rv : Value} {f : FuncId} {args : Array Value} (h : Bo w0 w B C d r) (c : ∀ (F : Nat → Prop) (q : Rh), q.B = C → RefIs w0.heap.size F w q r → Calls Try.prog f args w (RPost w0.heap.size F q.B r' rv w)) :
    Calls Try.prog f args w fun e w' => e = .returned rv ∧ Bo w0 w' B C d r' := by
  obtain ⟨F, p, q, h1, h2, h3, h4, h5⟩ := h.dev
  refine (c F q h2 h4).mono ?_
  rintro e w' ⟨rfl, q', q1, q2, q3⟩
  refine ⟨rfl, h.ch.new (q3.mono fun i _ hi => h4.low i hi), _, p, q', h1, q1.trans h2, h3.ch q3 (fun i hi hf => h5 i hi hf), q2, fun i hi hf => ?_⟩
  rcases hf with x | x
  · exact h5 i hi x
  · have := (h3.foot hi).2; omega
theorem Bo.does {x : OpD} {t : Nat} (h : Bo w0 w B C d r) (hx : OpOk x) (hl : Lim d t) (hm : LimM d t) (ht : t ≤ 1000000) (hQ : RowQ w0 x.V x.m x.q) :
    Calls Try.prog 12 #[.pointer (some ⟨B, 0, none⟩), .agg (opC x)] w fun e w' => e = .returned (.int .i64 (doesE d x)) ∧ Bo w0 w' B C (doesD d x) r :=
  h.drun fun p hp h3 => by
    subst hp
    refine does_any _ p d x t w h3 hx hl hm ht (hQ.gr h.ch) (fun b o C hv h0 q => ?_)
    obtain ⟨A, D, e, _, hc⟩ := hQ
    obtain ⟨b', o', e2, hcell⟩ := hc h0
    rw [hv] at e
    injection e with e _ _
    rw [e2] at e
    injection e with e
    injection e with e _
    have h5 := World.block_lt_of_cell? _ _ (hcell 0 h0)
    have h6 := (h3.foot q).1
    simp at h5
    omega
theorem Bo.did {x : OpD} {t : Nat} (h : Bo w0 w B C d r) (hx : OpOk x) (hl : Lim r t) (hm : LimM r t) (ht : t ≤ 1000000) (hQ : RowQ w0 x.V x.m x.q) :
    Calls Try.prog 13 #[.pointer (some ⟨C, 0, none⟩), .agg (opC x)] w fun e w' => e = .returned (.int .i64 (doesE r x)) ∧ Bo w0 w' B C d (doesD r x) :=
  h.rrun fun F q hq h4 => by
    subst hq
    refine did_any _ F q r x t w h4 hx hl hm ht (hQ.gr h.ch) (fun b o C hv h0 hf => ?_)
    obtain ⟨A, D, e, _, hc⟩ := hQ
    obtain ⟨b', o', e2, hcell⟩ := hc h0
    rw [hv] at e
    injection e with e _ _
    rw [e2] at e
    injection e with e
    injection e with e _
    have h5 := World.block_lt_of_cell? _ _ (hcell 0 h0)
    have h6 := h4.low b hf
    simp at h5
    omega
theorem Bo.read1 {a : Int} {t : Nat} (h : Bo w0 w B C d r) (hl : Lim d t) (ht : t ≤ 1000000) :
    Calls Try.prog 21 #[.pointer (some ⟨B, 0, none⟩), .int .i64 a] w fun e w' => ∃ A c, e = .returned (.tuple #[.slice A (readL d a) c, .int .i64 (readE d a)]) ∧ BoR w0 w' B C (readD d a) r (.slice A (readL d a) c) (readL d a) (readZ d a) := by
  obtain ⟨F, p, q, h1, h2, h3, h4, h5⟩ := h.dev
  subst h1
  have hZ : Bytes (readL d a) (readZ d a) := fun c hc => by
    unfold readL at hc
    by_cases q : readE d a = 0
    · rw [if_pos q] at hc
      by_cases q2 : openE d a = 0
      · obtain ⟨_, k, rfl, hk⟩ := openE_ok q2
        unfold readZ
        rw [Int.toNat_natCast]
        cases hl : lastW d.W k with
        | none => exact h3.byt k c hk hc
        | some x => exact (h3.wok x (scan_mem hl).1).2 c hc
      · unfold readE at q; rw [if_neg q2] at q; exact (q2 q).elim
    · rw [if_neg q] at hc; omega
  have hL : readL d a ≤ 256 := by unfold readL; split <;> omega
  have hN : (readD d a).n = d.n := by unfold readD; split <;> rfl
  refine (read_any _ p d a w h3 (by have := hl.ops; omega) (by have := hl.W; omega)).mono ?_
  rintro e w' ⟨v, rfl, e1, e2, e3⟩
  have hr := ownsRow_rowV e2 (by omega) hZ
  obtain ⟨A, c, rfl, _⟩ := id hr
  refine ⟨A, c, rfl, ⟨h.ch.new (e3.mono fun i _ hi => (h3.foot hi).1), ⟨F, p, q, rfl, h2, e1, h4.ch e3 (fun i hi hf => h5 i hf hi), fun i hi => h5 i ((foot_n hN).1 hi), fun i hi hf => ?_⟩, hr⟩⟩
  have := (own_at e2 hi).1
  have := h4.hi i hf
  omega
theorem BoR.read2 {a : Int} {t l : Nat} {v : Value} {z : Nat → Nat} (h : BoR w0 w B C d r v l z) (hl : Lim r t) (ht : t ≤ 1000000) :
    Calls Try.prog 32 #[.pointer (some ⟨C, 0, none⟩), .int .i64 a] w fun e w' => ∃ A c, e = .returned (.tuple #[.slice A (readL r a) c, .int .i64 (readE r a)]) ∧ RowV w' (.slice A (readL r a) c) (readL r a) (readZ r a) ∧ RowV w' v l z ∧ Bo w0 w' B C d (readD r a) := by
  obtain ⟨F, p, q, h1, h2, h3, h4, h5, h6⟩ := h.dev
  subst h2
  refine (rread_any _ F q r a w h4 (by have := hl.ops; omega) (by have := hl.W; omega)).mono ?_
  rintro e w' ⟨v2, rfl, e1, e2, e3⟩
  obtain ⟨A, c, rfl, _⟩ := id e2
  refine ⟨A, c, rfl, e2, ?_, h.ch.new (e3.mono fun i _ hi => h4.low i hi), F, p, q, h1, rfl, h3.ch e3 (fun i hi hf => h5 i hi hf), e1, h5⟩
  obtain ⟨A1, c1, rfl, g1, g2⟩ := h.row
  refine ⟨A1, c1, rfl, g1, fun h0 => ?_⟩
  obtain ⟨b, o, rfl, g3⟩ := g2 h0
  exact ⟨b, o, rfl, fun j hj => ⟨e3.cell (g3 j hj).1 (h6 b rfl), (g3 j hj).2⟩⟩
end

/-! ### same -/
def rdN (d : Dev) : Nat → Dev
  | 0 => d
  | j + 1 => readD (rdN d j) ((j : Int) - 1)
theorem readD_same (d : Dev) (a : Int) : (readD d a).n = d.n ∧ (readD d a).W = d.W ∧ (readD d a).dead = d.dead ∧ (readD d a).drops = d.drops ∧ (readD d a).miss = d.miss ∧ (readD d a).ops ≤ d.ops + 1 := by
  unfold readD
  split
  · exact ⟨rfl, rfl, rfl, rfl, rfl, Nat.le_refl _⟩
  · exact ⟨rfl, rfl, rfl, rfl, rfl, Nat.le_succ _⟩
theorem rdN_n (d : Dev) : ∀ j, (rdN d j).n = d.n
  | 0 => rfl
  | j + 1 => (readD_same _ _).1.trans (rdN_n d j)
theorem rdN_lim {d : Dev} {t : Nat} (h : Lim d t) : ∀ j, Lim (rdN d j) (t + j)
  | 0 => h
  | j + 1 => by
    have ih := rdN_lim h j
    obtain ⟨_, e2, _, e4, _, e6⟩ := readD_same (rdN d j) ((j : Int) - 1)
    refine ⟨?_, ?_, fun a => ?_⟩
    · show (readD (rdN d j) ((j : Int) - 1)).ops ≤ _
      have := ih.ops
      omega
    · show (readD (rdN d j) ((j : Int) - 1)).W.length ≤ _
      rw [e2]
      have := ih.W
      omega
    · show (readD (rdN d j) ((j : Int) - 1)).drops a ≤ _
      rw [e4]
      have := ih.drops a
      omega
theorem rdN_limM {d : Dev} {t : Nat} (h : LimM d t) : ∀ j, LimM (rdN d j) t
  | 0 => h
  | j + 1 => fun a => by
    show ((readD (rdN d j) ((j : Int) - 1)).miss a).length ≤ t
    rw [(readD_same (rdN d j) ((j : Int) - 1)).2.2.2.2.1]
    exact rdN_limM h j a
theorem quL {P : Program} {f : FuncId} {args : Array Value} {w : World} {k : Nat} {v : Value} (h : Calls P f args (w.drewN k) fun e w' => e = .returned v ∧ w.drewN k = w') : Calls P f args (w.drewN k) fun e w' => e = .returned v ∧ ∃ m, w' = w.drewN m :=
  h.mono fun _ _ ⟨he, hm⟩ => ⟨he, k, hm.symm⟩
def SamePost (w0 : World) (B C : Nat) (d : Dev) (e : Ending) (w' : World) : Prop := e = .returned (.bool true) ∧ Bo w0 w' B C (rdN d (d.n + 2)) (rdN d (d.n + 2))
set_option maxHeartbeats 1600000 in
set_option maxRecDepth 100000 in
theorem lsame_any (w0 w : World) (B C : Nat) (d : Dev) (t : Nat) (h : Bo w0 w B C d d) (hl : Lim d t) (ht : t ≤ 100000) :
    Calls Try.prog 14 #[.pointer (some ⟨B, 0, none⟩), .pointer (some ⟨C, 0, none⟩)] w (SamePost w0 B C d) := by
  obtain ⟨F, p, q, h1, h2, h3, h4, _⟩ := h.dev
  have c0 : w.cell? ⟨C, 0, none⟩ = some (.slice (some ⟨q.G, 0, none⟩) d.n q.cG) := by rw [← h2]; exact h4.cellB 0
  have c6 : w.cell? ⟨C, 6, none⟩ = some (.bool d.dead) := by rw [← h2]; exact h4.cellB 6
  have HLen := Lib.hid (fun k => len_any w0.heap.size p d (w.drewN k) (h3.gr ((Ch.refl _ w).drewN k)))
  have HDead := Lib.hid (fun k => dead_any w0.heap.size p d (w.drewN k) (h3.gr ((Ch.refl _ w).drewN k)))
  rw [h1] at HLen HDead
  obtain ⟨N, hN⟩ : ∃ N, N = d.n := ⟨_, rfl⟩
  have hN4 : N ≤ 4096 := by rw [hN]; exact h4.nn.2
  have HN := Lib.hid hN
  rw [← hN] at c0 HLen
  have t1 : ((N : Int) != (N : Int)) = false := by simp
  have t2 : (d.dead != d.dead) = false := by simp
  have HL := Lib.hid (rdN_lim hl)
  have HB := Lib.hid h
  clear h h1 h2 h3 h4 hN hl
  go_enter Try.func14, Try.ntmps14
  go_wp2
  go_quiet (first | (go_at_call 25; exact quL (HLen.out _)) | (go_at_call 27; exact quL (HDead.out _)))
  go_wp2
  have HB0 := Lib.hid (HB.out.gr ((Ch.refl _ w).drewN nq))
  clear HB HLen HDead c0 c6
  go_loopw [5, 6, 7, 8, 9, 10] (fun i _ _ _ _ _ wr => ∃ j : Nat, j ≤ N + 2 ∧ i = .int .i64 ((j : Int) - 1) ∧ Hid (Bo w0 wr B C (rdN d j) (rdN d j))) (fun i _ _ _ _ _ _ => N + 2 - (intOf i + 1).toNat)
  case atStart => exact ⟨0, Nat.zero_le _, rfl, HB0⟩
  case round =>
    obtain ⟨j, hj, rfl, HJ⟩ := hrel
    obtain ⟨F2, p2, q2, g1, g2, g3, g4, g5⟩ := HJ.out.dev
    have d0 : wr.cell? ⟨C, 0, none⟩ = some (.slice (some ⟨q2.G, 0, none⟩) N q2.cG) := by rw [← g2, HN.out, ← rdN_n d j]; exact g4.cellB 0
    obtain ⟨G2, hG2⟩ : ∃ G2, G2 = q2.G := ⟨_, rfl⟩
    obtain ⟨cG2, hcG2⟩ : ∃ cG2, cG2 = q2.cG := ⟨_, rfl⟩
    rw [← hG2, ← hcG2] at d0
    by_cases hlt : j < N + 2
    · clear g1 g2 g3 g4 g5 hG2 hcG2
      have hle : (j : Int) - 1 ≤ (N : Int) := by omega
      have HLJ := Lib.hid (HL.out j)
      have HR1 := Lib.hid (HJ.out.read1 (a := (j : Int) - 1) HLJ.out (by omega))
      obtain ⟨E, hE⟩ : ∃ E, E = readE (rdN d j) ((j : Int) - 1) := ⟨_, rfl⟩
      obtain ⟨l, hl⟩ : ∃ l, l = readL (rdN d j) ((j : Int) - 1) := ⟨_, rfl⟩
      obtain ⟨z, hz⟩ : ∃ z, z = readZ (rdN d j) ((j : Int) - 1) := ⟨_, rfl⟩
      rw [← hE, ← hl, ← hz] at HR1
      have t3 : (E != E) = false := by simp
      have HE := Lib.hid (show E = readE (rdN d j) ((j : Int) - 1) ∧ l = readL (rdN d j) ((j : Int) - 1) ∧ z = readZ (rdN d j) ((j : Int) - 1) from ⟨hE, hl, hz⟩)
      clear hE hl hz
      obtain ⟨a, ha⟩ : ∃ a : Int, a = (j : Int) - 1 := ⟨_, rfl⟩
      rw [← ha] at HR1 HE hle ⊢
      have HAJ := Lib.hid ha
      have ha1 : -1 ≤ a ∧ a ≤ 4096 := by omega
      clear ha
      go_wp2_with fail
      refine HR1.out.mono ?_
      rintro e w2 ⟨A1, C1, rfl, hb2⟩
      have HR2 := Lib.hid (hb2.read2 (a := a) HLJ.out (by omega))
      rw [← HE.out.1, ← HE.out.2.1, ← HE.out.2.2] at HR2
      clear hb2 d0
      go_wp2_with fail
      refine HR2.out.mono ?_
      rintro e w3 ⟨A2, C2, rfl, hr2, hr1, hb3⟩
      have HS := Lib.hid (same_any _ _ _ _ _ _ _ _ w3 hr1 hr2)
      rw [eqB_yes rfl (fun c _ => rfl)] at HS
      have HB3 := Lib.hid (show Bo w0 w3 B C (rdN d (j + 1)) (rdN d (j + 1)) by
        show Bo w0 w3 B C (readD (rdN d j) ((j : Int) - 1)) (readD (rdN d j) ((j : Int) - 1))
        rw [← HAJ.out]
        exact hb3)
      clear hr2 hr1 hb3 HR1 HR2
      go_wp2_with fail
      refine HS.out.mono ?_
      rintro e w4 ⟨rfl, n4, rfl⟩
      have HB4 := Lib.hid (HB3.out.gr ((Ch.refl _ w3).drewN n4))
      have hnx : a + 1 = ((j + 1 : Nat) : Int) - 1 := by have := HAJ.out; omega
      have hms : (a + 1).toNat = j := by have := HAJ.out; omega
      have HNX := Lib.hid hnx
      have HMS := Lib.hid hms
      clear HS HB3 hnx hms
      go_wp2
      go_roundw
      case rel => exact ⟨j + 1, by omega, by rw [← HNX.out], HB4⟩
      case measure =>
        have := HMS.out
        simp [intOf]
        omega
    · obtain rfl : j = N + 2 := by omega
      have e8 : wr.cell? ⟨C, 8, none⟩ = some (.int .i64 ((rdN d (N + 2)).ops : Int)) := by rw [← g2]; exact g4.cellB 8
      have HOps := Lib.hid (fun k => ops_any w0.heap.size p2 (rdN d (N + 2)) (wr.drewN k) (g3.gr ((Ch.refl _ wr).drewN k)))
      rw [g1] at HOps
      have hop := (HL.out (N + 2)).ops
      obtain ⟨O, hO⟩ : ∃ O, O = (rdN d (N + 2)).ops := ⟨_, rfl⟩
      rw [← hO] at e8 HOps hop
      have HP : Hid (∀ k, SamePost w0 B C d (.returned (.bool true)) (wr.drewN k)) := fun k => ⟨rfl, by rw [← HN.out]; exact HJ.out.gr ((Ch.refl _ wr).drewN k)⟩
      have en : ((N + 2 : Nat) : Int) - 1 = (N : Int) + 1 := by omega
      rw [en]
      clear g1 g2 g3 g4 g5 hG2 hcG2 hO HL HB0 en
      go_wp2
      go_quiet ((go_at_call 26; exact quL (HOps.out _)))
      go_wp2
      go_ret
      exact HP.out _
#print axioms lsame_any
end Go.Proofs.Ytkbhpkpacojpcaa
