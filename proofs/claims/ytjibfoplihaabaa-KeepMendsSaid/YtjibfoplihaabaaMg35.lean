/-
  Both devices side by side; law06.same, walked. law09.spoilt, walked: a device, and the document's, behind faults.
-/
import Derived.Test.YtjibfoplihaabaaMg34
import Derived.Test.YtjibfoplihaabaaMg23
namespace Go.Proofs.Ytjibfoplihaabaa
open Go.RowKit
set_option linter.unusedVariables false
set_option maxRecDepth 100000

/-- Behind w0 there are the program's device at B, the document's at C, apart from one another, and nothing old has turned. -/
structure Bo (w0 w : World) (B C : Nat) (d r : Dev) : Prop where
  ch : Ch (fun _ => False) w0 w
  dev : ∃ (F : Nat → Prop) (p : Ph) (q : Rh), p.B = B ∧ q.B = C ∧ DevIs w0.heap.size w p d ∧ RefIs w0.heap.size F w q r ∧ ∀ i, Foot p d i → ¬ F i
/-- With a row beside them. -/
structure BoR (w0 w : World) (B C : Nat) (d r : Dev) (v : Value) (l : Nat) (z : Nat → Nat) : Prop where
  ch : Ch (fun _ => False) w0 w
  dev : ∃ (F : Nat → Prop) (p : Ph) (q : Rh), p.B = B ∧ q.B = C ∧ DevIs w0.heap.size w p d ∧ RefIs w0.heap.size F w q r ∧ (∀ i, Foot p d i → ¬ F i) ∧ ∀ i, v.ownBlock = some i → ¬ F i
  row : RowV w v l z
section
variable {w0 w w' : World} {B C : Nat} {d r : Dev}
theorem Bo.gr (h : Bo w0 w B C d r) (k : Ch (fun _ => False) w w') : Bo w0 w' B C d r := by
  obtain ⟨F, p, q, h1, h2, h3, h4, h5⟩ := h.dev
  exact ⟨h.ch.trans k, F, p, q, h1, h2, h3.gr k, h4.gr k, h5⟩
theorem Bo.drun {d' : Dev} {rv : Value} {f : FuncId} {args : Array Value} (h : Bo w0 w B C d r) (c : ∀ p : Ph, p.B = B → DevIs w0.heap.size w p d → Calls Try.prog f args w (DPost w0.heap.size p d d' rv w)) :
    Calls Try.prog f args w fun e w' => e = .returned rv ∧ Bo w0 w' B C d' r := by
  obtain ⟨F, p, q, h1, h2, h3, h4, h5⟩ := h.dev
  refine (c p h1 h3).mono ?_
  rintro e w' ⟨rfl, p', q1, q2, q3, q4⟩
  refine ⟨rfl, h.ch.new (q4.mono fun i _ hi => (h3.foot hi).1), F, p', q, q1.trans h1, h2, q2, h4.ch q4 (fun i hi hf => h5 i hf hi), fun i hi hf => ?_⟩
  rcases q3 i hi with x | x
  · exact h5 i x hf
  · have := h4.hi i hf; omega
theorem Bo.rrun {r' : Dev} {rv : Value} {f : FuncId} {args : Array Value} (h : Bo w0 w B C d r) (c : ∀ (F : Nat → Prop) (q : Rh), q.B = C → RefIs w0.heap.size F w q r → Calls Try.prog f args w (RPost w0.heap.size F q.B r' rv w)) :
    Calls Try.prog f args w fun e w' => e = .returned rv ∧ Bo w0 w' B C d r' := by
  obtain ⟨F, p, q, h1, h2, h3, h4, h5⟩ := h.dev
  refine (c F q h2 h4).mono ?_
  rintro e w' ⟨rfl, q', q1, q2, q3⟩
  refine ⟨rfl, h.ch.new (q3.mono fun i _ hi => h4.low i hi), _, p, q', h1, q1.trans h2, h3.ch q3 (fun i hi hf => h5 i hi hf), q2, fun i hi hf => ?_⟩
  rcases hf with x | x
  · exact h5 i hi x
  · have := (h3.foot hi).2; omega
theorem Bo.read1 {a : Int} {t : Nat} (h : Bo w0 w B C d r) (hl : Lim d t) (ht : t ≤ 1000000) :
    Calls Try.prog 20 #[.pointer (some ⟨B, 0, none⟩), .int .i64 a] w fun e w' => ∃ A c, e = .returned (.tuple #[.slice A (readL d a) c, .int .i64 (readE d a)]) ∧ BoR w0 w' B C (readD d a) r (.slice A (readL d a) c) (readL d a) (readZ d a) := by
  obtain ⟨F, p, q, h1, h2, h3, h4, h5⟩ := h.dev
  subst h1
  have hZ : Bytes (readL d a) (readZ d a) := fun c hc => by
    unfold readL at hc
    by_cases q : readE d a = 0
    · rw [if_pos q] at hc
      by_cases q2 : openE d a = 0
      · obtain ⟨_, k, rfl, hk⟩ := openE_ok q2
        unfold readZ
        rw [Int.toNat_natCast]
        cases hl : lastW d.W k with
        | none => exact h3.byt k c hk hc
        | some x => exact (h3.wok x (scan_mem hl).1).2 c hc
      · unfold readE at q; rw [if_neg q2] at q; exact (q2 q).elim
    · rw [if_neg q] at hc; omega
  have hL : readL d a ≤ 256 := by unfold readL; split <;> omega
  have hN : (readD d a).n = d.n := by unfold readD; split <;> rfl
  refine (read_any _ p d a w h3 (by have := hl.ops; omega) (by have := hl.W; omega)).mono ?_
  rintro e w' ⟨v, rfl, e1, e2, e3⟩
  have hr := ownsRow_rowV e2 (by omega) hZ
  obtain ⟨A, c, rfl, _⟩ := id hr
  refine ⟨A, c, rfl, ⟨h.ch.new (e3.mono fun i _ hi => (h3.foot hi).1), ⟨F, p, q, rfl, h2, e1, h4.ch e3 (fun i hi hf => h5 i hf hi), fun i hi => h5 i ((foot_n hN).1 hi), fun i hi hf => ?_⟩, hr⟩⟩
  have := (own_at e2 hi).1
  have := h4.hi i hf
  omega
theorem BoR.read2 {a : Int} {t l : Nat} {v : Value} {z : Nat → Nat} (h : BoR w0 w B C d r v l z) (hl : Lim r t) (ht : t ≤ 1000000) :
    Calls Try.prog 31 #[.pointer (some ⟨C, 0, none⟩), .int .i64 a] w fun e w' => ∃ A c, e = .returned (.tuple #[.slice A (readL r a) c, .int .i64 (readE r a)]) ∧ RowV w' (.slice A (readL r a) c) (readL r a) (readZ r a) ∧ RowV w' v l z ∧ Bo w0 w' B C d (readD r a) := by
  obtain ⟨F, p, q, h1, h2, h3, h4, h5, h6⟩ := h.dev
  subst h2
  refine (rread_any _ F q r a w h4 (by have := hl.ops; omega) (by have := hl.W; omega)).mono ?_
  rintro e w' ⟨v2, rfl, e1, e2, e3⟩
  obtain ⟨A, c, rfl, _⟩ := id e2
  refine ⟨A, c, rfl, e2, ?_, h.ch.new (e3.mono fun i _ hi => h4.low i hi), F, p, q, h1, rfl, h3.ch e3 (fun i hi hf => h5 i hi hf), e1, h5⟩
  obtain ⟨A1, c1, rfl, g1, g2⟩ := h.row
  refine ⟨A1, c1, rfl, g1, fun h0 => ?_⟩
  obtain ⟨b, o, rfl, g3⟩ := g2 h0
  exact ⟨b, o, rfl, fun j hj => ⟨e3.cell (g3 j hj).1 (h6 b rfl), (g3 j hj).2⟩⟩
end

/-! ### same -/
def rdN (d : Dev) : Nat → Dev
  | 0 => d
  | j + 1 => readD (rdN d j) ((j : Int) - 1)
theorem readD_same (d : Dev) (a : Int) : (readD d a).n = d.n ∧ (readD d a).W = d.W ∧ (readD d a).dead = d.dead ∧ (readD d a).drops = d.drops ∧ (readD d a).miss = d.miss ∧ (readD d a).ops ≤ d.ops + 1 := by
  unfold readD
  split
  · exact ⟨rfl, rfl, rfl, rfl, rfl, Nat.le_refl _⟩
  · exact ⟨rfl, rfl, rfl, rfl, rfl, Nat.le_succ _⟩
theorem rdN_n (d : Dev) : ∀ j, (rdN d j).n = d.n
  | 0 => rfl
  | j + 1 => (readD_same _ _).1.trans (rdN_n d j)
theorem rdN_lim {d : Dev} {t : Nat} (h : Lim d t) : ∀ j, Lim (rdN d j) (t + j)
  | 0 => h
  | j + 1 => by
    have ih := rdN_lim h j
    obtain ⟨_, e2, _, e4, _, e6⟩ := readD_same (rdN d j) ((j : Int) - 1)
    refine ⟨?_, ?_, fun a => ?_⟩
    · show (readD (rdN d j) ((j : Int) - 1)).ops ≤ _
      have := ih.ops
      omega
    · show (readD (rdN d j) ((j : Int) - 1)).W.length ≤ _
      rw [e2]
      have := ih.W
      omega
    · show (readD (rdN d j) ((j : Int) - 1)).drops a ≤ _
      rw [e4]
      have := ih.drops a
      omega
theorem rdN_limM {d : Dev} {t : Nat} (h : LimM d t) : ∀ j, LimM (rdN d j) t
  | 0 => h
  | j + 1 => fun a => by
    show ((readD (rdN d j) ((j : Int) - 1)).miss a).length ≤ t
    rw [(readD_same (rdN d j) ((j : Int) - 1)).2.2.2.2.1]
    exact rdN_limM h j a
theorem quL {P : Program} {f : FuncId} {args : Array Value} {w : World} {k : Nat} {v : Value} (h : Calls P f args (w.drewN k) fun e w' => e = .returned v ∧ w.drewN k = w') : Calls P f args (w.drewN k) fun e w' => e = .returned v ∧ ∃ m, w' = w.drewN m :=
  h.mono fun _ _ ⟨he, hm⟩ => ⟨he, k, hm.symm⟩
end Go.Proofs.Ytjibfoplihaabaa
namespace Go.Proofs.Ytjibfoplihaabaa
open Go.RowKit
set_option linter.unusedVariables false
set_option maxRecDepth 100000

/-! ### rows of faults -/
structure FauAt (w : World) (b o : Nat) (f : Fa) : Prop where
  c : ∀ j v, (faC f)[j]? = some v → w.cell? ⟨b, o + j, none⟩ = some v
  ok : FaOk f
theorem FauAt.gr {w w' : World} {b o : Nat} {f : Fa} (h : FauAt w b o f) (k : Ch (fun _ => False) w w') : FauAt w' b o f := ⟨fun j v hj => k.cell (h.c j v hj) (fun x => x), h.ok⟩
theorem FauAt.load {w : World} {b o : Nat} {f : Fa} (h : FauAt w b o f) : (loadVar 45 ⟨b, o, none⟩).run Try.prog w = .ok (.agg (faC f)) w :=
  run_loadVar_mid w b o _ (faC f).toList _ (fun j v hj => h.c j v (by rw [← Array.getElem?_toList]; exact hj)) Try.underlying45 rfl (show _ = some 9 by kernel_rfl)
def RowF (w : World) (A : Option Addr) (m : Nat) (g : Nat → Fa) : Prop :=
  m ≤ 9223372036854775807 ∧ (0 < m → ∃ b o, A = some ⟨b, o, none⟩ ∧ ∀ c, c < m → FauAt w b (o + c * 9) (g c))
theorem RowF.gr {w w' : World} {A : Option Addr} {m : Nat} {g : Nat → Fa} (h : RowF w A m g) (k : Ch (fun _ => False) w w') : RowF w' A m g := by
  refine ⟨h.1, fun h0 => ?_⟩
  obtain ⟨b, o, hA, hc⟩ := h.2 h0
  exact ⟨b, o, hA, fun c hcm => (hc c hcm).gr k⟩

/-! ### a device behind faults -/
def faTo (d : Dev) (g : Nat → Fa) : Nat → Dev
  | 0 => d
  | k + 1 => faultD (faTo d g k) (g k)
theorem lim0 (n t : Nat) : Lim (dev0 n) t ∧ LimM (dev0 n) t := ⟨⟨Nat.zero_le _, Nat.zero_le _, fun _ => Nat.zero_le _⟩, fun _ => Nat.zero_le _⟩
theorem faTo_lim {d : Dev} {g : Nat → Fa} {t : Nat} (h : Lim d t) (hm : LimM d t) : ∀ k, Lim (faTo d g k) (t + k) ∧ LimM (faTo d g k) (t + k)
  | 0 => ⟨h, hm⟩
  | k + 1 => by
    have ih := faTo_lim (g := g) h hm k
    exact (near_fault (faTo d g k) (g k)).lim ih.1 ih.2
def spD (g : Nat → Fa) (m : Nat) (die : Int) : Dev := armD (faTo (dev0 8) g m) die
theorem spD_lim (g : Nat → Fa) (m : Nat) (die : Int) : Lim (spD g m die) m ∧ LimM (spD g m die) m := by
  have h := faTo_lim (g := g) (lim0 8 0).1 (lim0 8 0).2 m
  rw [Nat.zero_add] at h
  exact ⟨⟨h.1.ops, h.1.W, h.1.drops⟩, h.2⟩
theorem faTo_n (d : Dev) (g : Nat → Fa) : ∀ k, (faTo d g k).n = d.n
  | 0 => rfl
  | k + 1 => (near_fault (faTo d g k) (g k)).n.trans (faTo_n d g k)
theorem spD_n (g : Nat → Fa) (m : Nat) (die : Int) : (spD g m die).n = 8 := faTo_n (dev0 8) g m
section
variable {w0 w w' w2 w3 : World} {B C : Nat} {d r : Dev}
theorem Bo.start {q : Rh} (h : OneX w0 (fun _ => False) B d w2) (hq : q.B = C) (h2 : RefIs w0.heap.size (fun i => w2.heap.size ≤ i ∧ i < w3.heap.size) w3 q r) (k : Ch (fun _ => False) w2 w3) : Bo w0 w3 B C d r := by
  obtain ⟨p, hp, h3, _⟩ := h.dev
  refine ⟨h.ch.trans k, _, p, q, hp, hq, h3.gr k, h2, fun i hi hf => ?_⟩
  have := (h3.foot hi).2
  omega
theorem Bo.fault {f : Fa} {t : Nat} (h : Bo w0 w B C d r) (hf : FaOk f) (hl : Lim d t) (hm : LimM d t) (ht : t ≤ 1000000) :
    Calls Try.prog 16 #[.pointer (some ⟨B, 0, none⟩), .agg (faC f)] w fun e w' => e = .returned (.int .i64 (faultE d f)) ∧ Bo w0 w' B C (faultD d f) r :=
  h.drun fun p hp h3 => by
    subst hp
    exact fault_any _ p d f t w h3 hf hl hm ht
theorem Bo.rfault {f : Fa} {t : Nat} (h : Bo w0 w B C d r) (hf : FaOk f) (hl : Lim r t) (hm : LimM r t) (ht : t ≤ 1000000) :
    Calls Try.prog 24 #[.pointer (some ⟨C, 0, none⟩), .agg (faC f)] w fun e w' => e = .returned (.int .i64 (faultE r f)) ∧ Bo w0 w' B C d (faultD r f) :=
  h.rrun fun F q hq h4 => by
    exact hq ▸ rfault_any _ F q r f t w h4 hf hl hm ht
theorem Bo.arm (h : Bo w0 w B C d r) (n : Int) (hn : I64 n) :
    Calls Try.prog 25 #[.pointer (some ⟨B, 0, none⟩), .int .i64 n] w fun e w' => e = .returned (.tuple #[]) ∧ Bo w0 w' B C (armD d n) r :=
  h.drun fun p hp h3 => by
    subst hp
    exact arm_any _ p d n w h3 hn
theorem Bo.rarm (h : Bo w0 w B C d r) (n : Int) (hn : I64 n) : Bo w0 ((w.setCell ⟨C, 5, none⟩ (.bool (decide (0 ≤ n)))).setCell ⟨C, 7, none⟩ (.int .i64 n)) B C d (armD r n) := by
  obtain ⟨F, p, q, h1, h2, h3, h4, h5⟩ := h.dev
  subst h2
  have k : Ch F w ((w.setCell ⟨q.B, 5, none⟩ (.bool (decide (0 ≤ n)))).setCell ⟨q.B, 7, none⟩ (.int .i64 n)) := ((Ch.refl F w).setCell (p := ⟨q.B, 5, none⟩) (Or.inl h4.fB) _).setCell (p := ⟨q.B, 7, none⟩) (Or.inl h4.fB) _
  exact ⟨h.ch.new (k.mono fun i _ hi => h4.low i hi), F, p, { q with lf := n }, h1, rfl, h3.ch k (fun i hi hf => h5 i hi hf), h4.arm n hn, h5⟩
theorem Bo.rcells (h : Bo w0 w B C d r) : (∃ v, w.cell? ⟨C, 5, none⟩ = some v) ∧ (∃ v, w.cell? ⟨C, 7, none⟩ = some v) ∧ w.frozen? ⟨C, 5, none⟩ = false ∧ w.frozen? ⟨C, 7, none⟩ = false := by
  obtain ⟨F, p, q, h1, h2, h3, h4, h5⟩ := h.dev
  subst h2
  exact ⟨⟨_, h4.cellB 5⟩, ⟨_, h4.cellB 7⟩, h4.frB 5, h4.frB 7⟩
end
def SpP (w0 : World) (d : Dev) (e : Ending) (w' : World) : Prop := ∃ B C, e = .returned (.tuple #[.pointer (some ⟨B, 0, none⟩), .pointer (some ⟨C, 0, none⟩)]) ∧ Bo w0 w' B C d d
set_option maxHeartbeats 1600000 in
theorem spoilt_any (A : Option Addr) (m C0 : Nat) (g : Nat → Fa) (die : Int) (w0 w : World) (hc : Ch (fun _ => False) w0 w) (h : RowF w0 A m g) (hm : m ≤ 1000) (hd : I64 die) :
    Calls Try.prog 8 #[.slice A m C0, .int .i64 die] w (SpP w0 (spD g m die)) := by
  have HC := Lib.hid hc
  have HV := Lib.hid h
  have HD := Lib.hid hd
  have HL := Lib.hid (fun k => faTo_lim (g := g) (lim0 8 0).1 (lim0 8 0).2 k)
  clear hc h hd
  go_enter Try.func8, Try.ntmps8
  go_wp2_with fail
  refine (OneX.new (X := fun _ => False) 8 w (by decide) (by decide) w0 HC.out (fun _ f => f.elim)).mono ?_
  rintro e w2 ⟨B, rfl, h2⟩
  have H2 := Lib.hid h2
  have K2 := Lib.hid (show w0.heap.size ≤ w2.heap.size from h2.ch.size)
  clear h2
  go_wp2_with fail
  refine (rnew_any 8 w2 (by decide) (by decide)).mono ?_
  rintro e w3 ⟨C, rfl, h3, hc3⟩
  obtain ⟨q, hq, hr⟩ := h3 w0.heap.size K2.out
  have HS : Hid (Bo w0 w3 B C (faTo (dev0 8) g 0) (faTo (dev0 8) g 0)) := Bo.start H2.out hq hr hc3
  clear h3 hc3 hq hr H2 K2
  go_wp2_with fail
  go_loopw [10] (fun i wr => ∃ k : Nat, k ≤ m ∧ i = .int .i64 k ∧ Hid (Bo w0 wr B C (faTo (dev0 8) g k) (faTo (dev0 8) g k))) (fun i _ => m - (intOf i).toNat)
  case atStart => exact ⟨0, Nat.zero_le _, rfl, HS⟩
  case round =>
    obtain ⟨k, hk, rfl, HK⟩ := hrel
    clear HS
    by_cases hlt : k < m
    · obtain ⟨b, o, rfl, hcs⟩ := HV.out.2 (by omega)
      have hw := hcs k hlt
      have HF := Lib.hid hw.ok
      have HW := Lib.hid hw
      have HLD := Lib.hid (hw.gr HK.out.ch).load
      have i1 : (0 : Int) ≤ (k : Int) := Int.natCast_nonneg _
      have i2 : (k : Int) < (m : Int) := by omega
      have HLK := Lib.hid (HL.out k)
      have H1 := Lib.hid (HK.out.fault HF.out HLK.out.1 HLK.out.2 (by omega))
      obtain ⟨E, hE⟩ : ∃ E, E = faultE (faTo (dev0 8) g k) (g k) := ⟨_, rfl⟩
      rw [← hE] at H1
      have HE := Lib.hid hE
      obtain ⟨f, hf⟩ : ∃ f, f = g k := ⟨_, rfl⟩
      rw [← hf] at HLD HF H1 HE HW
      have HFK := Lib.hid hf
      have HLT := Lib.hid hlt
      clear hcs hw hE hf hlt
      go_wp2_with (first
        | ((with_reducible refine wpList_isOp (.load 45 (.tmp 28)) rfl ?_); refine wpList_loading _ rfl 45 (.tmp 28) rfl (.agg (faC f)) ⟨b, o + k * 9, none⟩ (by simp [Act.eval]) (by exact HLD.out) ?_)
        | fail)
      refine H1.out.mono ?_
      rintro e w4 ⟨rfl, h4⟩
      have HLD2 := Lib.hid (HW.out.gr h4.ch).load
      have H2 := Lib.hid (h4.rfault HF.out HLK.out.1 HLK.out.2 (by omega))
      rw [← HE.out] at H2
      clear h4 H1 HLD
      go_wp2_with (first
        | ((with_reducible refine wpList_isOp (.load 45 (.tmp 34)) rfl ?_); refine wpList_loading _ rfl 45 (.tmp 34) rfl (.agg (faC f)) ⟨b, o + k * 9, none⟩ (by simp [Act.eval]) (by exact HLD2.out) ?_)
        | fail)
      refine H2.out.mono ?_
      rintro e w5 ⟨rfl, h5⟩
      have HB := Lib.hid (show Bo w0 w5 B C (faTo (dev0 8) g (k + 1)) (faTo (dev0 8) g (k + 1)) by rw [HFK.out] at h5; exact h5)
      have HLT2 := HLT.out
      clear h5 H2 HLD2
      go_wp2
      go_roundw
      case rel => exact ⟨k + 1, by omega, by go_num, HB⟩
      case measure => simp [intOf]; omega
    · obtain rfl : k = m := by omega
      have HA := Lib.hid (HK.out.arm die HD.out)
      clear hlt
      go_wp2_with fail
      refine HA.out.mono ?_
      rintro e w4 ⟨rfl, h4⟩
      obtain ⟨⟨v5, c5⟩, ⟨v7, c7⟩, f5, f7⟩ := h4.rcells
      have HP : Hid (SpP w0 (spD g k die) (.returned (.tuple #[.pointer (some ⟨B, 0, none⟩), .pointer (some ⟨C, 0, none⟩)])) ((w4.setCell ⟨C, 5, none⟩ (.bool (decide (0 ≤ die)))).setCell ⟨C, 7, none⟩ (.int .i64 die))) := ⟨B, C, rfl, h4.rarm die HD.out⟩
      clear h4 HA HK
      go_wp2
      go_ret2
      exact HP.out
#print axioms spoilt_any
end Go.Proofs.Ytjibfoplihaabaa
