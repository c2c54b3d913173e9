/-
  keep's keeper: a device and a count, behind calls. Variables that hold a piece of the log. ring.within, areWords, addr and May, walked.
-/
import Derived.Test.YteleknojohnlbaaGreatMc10
import Derived.Test.YteleknojohnlbaaGreatMc11
import Derived.Test.YteleknojohnlbaaGreatMc6
import Derived.Test.YteleknojohnlbaaGreatMc20
import Derived.Test.YteleknojohnlbaaGreatMc14
import Derived.Laws.ResultCell
namespace Go.Proofs.YteleknojohnlbaaGreat
open Go.RowKit
set_option linter.unusedVariables false
set_option maxRecDepth 100000
structure KpS (base : Nat) (F : Nat → Prop) (w wr : World) (B K : Nat) (d : Dev) (c : Nat) : Prop where
  dev : ∃ p : Ph, p.B = B ∧ DevIs base wr p d ∧ ∀ i, Foot p d i → F i ∨ w.heap.size ≤ i
  kp : wr.heap[K]? = some (.cells #[.pointer (some ⟨B, 0, none⟩), .int .i64 (c : Int)] 178 (0, 0))
  ch : Ch (fun i => F i ∨ i = K) w wr
structure KpF (base : Nat) (F : Nat → Prop) (w : World) (K : Nat) : Prop where
  le : base ≤ w.heap.size
  low : ∀ i, F i → base ≤ i ∧ i < w.heap.size
  off : ¬ F K
  lt : K < w.heap.size
theorem Ch.via {S T U : Nat → Prop} {a b c : World} (h : Ch S a b) (k : Ch T b c) (hS : ∀ i, i < a.heap.size → S i → U i) (hT : ∀ i, i < a.heap.size → T i → U i) : Ch U a c :=
  ⟨k.os.trans h.os, k.tape.trans h.tape, k.output.trans h.output, Nat.le_trans h.size k.size, fun i hi hU => (k.block i (Nat.lt_of_lt_of_le hi h.size) (fun x => hU (hT i hi x))).trans (h.block i hi (fun x => hU (hS i hi x)))⟩
theorem read_bytes {base : Nat} {w : World} {p : Ph} {d : Dev} (h : DevIs base w p d) (a : Int) : Bytes (readL d a) (readZ d a) := fun c hc => by
  unfold readL at hc
  by_cases q : readE d a = 0
  · rw [if_pos q] at hc
    by_cases q2 : openE d a = 0
    · obtain ⟨_, k, rfl, hk⟩ := openE_ok q2
      unfold readZ
      rw [Int.toNat_natCast]
      cases hl : lastW d.W k with
      | none => exact h.byt k c hk hc
      | some x => exact (h.wok x (scan_mem hl).1).2 c hc
    · unfold readE at q; rw [if_neg q2] at q; exact (q2 q).elim
  · rw [if_neg q] at hc; omega
structure BoxR (w w1 : World) (H : Nat) (cs : Array Value) (t : TypeId) : Prop where
  al : w.alloc (.cells cs t) = w1
  sz : w.heap.size = H
  cx : w1.heap[H]? = some (.cells cs t (0, 0))
  ch : Ch (fun _ => False) w w1
theorem boxR (w : World) (cs : Array Value) (t : TypeId) : ∃ w1 H, BoxR w w1 H cs t := ⟨_, _, rfl, rfl, heap_alloc_new w _, (Ch.refl _ w).alloc _ _⟩
structure VarR (w wz wx : World) (H : Nat) (zs cs : Array Value) (t : TypeId) : Prop where
  al : w.alloc (.cells zs t) = wz
  sz : w.heap.size = H
  st : (storeVar t ⟨H, 0, none⟩ (.agg cs)).run Tryz.prog wz = .ok () wx
  cx : wx.heap[H]? = some (.cells cs t (0, 0))
  ch : Ch (fun _ => False) w wx
theorem zero_put (w : World) : (zeroValue 164).run Tryz.prog w = .ok (.agg #[.int .i64 0, .slice none 0 0]) w := by kernel_rfl
theorem zero_kp (w : World) : (zeroValue 178).run Tryz.prog w = .ok (.agg #[.pointer none, .int .i64 0]) w := by kernel_rfl
theorem size_put : (Tryz.prog.info? 164).map (·.size) = some 2 := by kernel_rfl
theorem size_kp : (Tryz.prog.info? 178).map (·.size) = some 2 := by kernel_rfl
theorem varR {t : TypeId} {u v x y : Value} (ht : (Tryz.prog.info? t).map (·.size) = some 2) (hx : x.oneCell' = true) (hy : y.oneCell' = true) (w : World) : ∃ wz wx H, VarR w wz wx H #[u, v] #[x, y] t :=
  ⟨_, w.alloc (.cells #[x, y] t), w.heap.size, rfl, rfl, run_storeVar_new (P := Tryz.prog) w _ _ _ ht rfl (all_oneCell_toArray (cs := [x, y]) fun u hu => by
    rcases List.mem_cons.1 hu with rfl | hu
    · exact hx
    · rw [List.mem_singleton.1 hu]; exact hy), heap_alloc_new _ _, (Ch.refl _ w).alloc _ _⟩
section
variable {base : Nat} {F : Nat → Prop} {w wr w' : World} {B K c : Nat} {d d' : Dev}
theorem KpS.gr (h : KpS base F w wr B K d c) (k : Ch (fun _ => False) wr w') : KpS base F w w' B K d c := by
  obtain ⟨p, h1, h2, h3⟩ := h.dev
  exact ⟨⟨p, h1, h2.gr k, h3⟩, (k.block K (blk_lt h.kp) (fun f => f)).trans h.kp, h.ch.via k (fun _ _ x => x) (fun _ _ f => f.elim)⟩
theorem KpS.c0 (h : KpS base F w wr B K d c) : wr.cell? ⟨K, 0, none⟩ = some (.pointer (some ⟨B, 0, none⟩)) := blk_cell h.kp
theorem KpS.c1 (h : KpS base F w wr B K d c) : wr.cell? ⟨K, 1, none⟩ = some (.int .i64 (c : Int)) := blk_cell h.kp
theorem KpS.fr (h : KpS base F w wr B K d c) (i : Nat) : wr.frozen? ⟨K, i, none⟩ = false := blk_frozen h.kp
theorem KpS.then (h : KpS base F w wr B K d c) (hF : KpF base F w K) {p p' : Ph} (h1 : p.B = B) (h3 : ∀ i, Foot p d i → F i ∨ w.heap.size ≤ i) (q1 : p'.B = p.B) (q2 : DevIs base w' p' d') (q3 : ∀ i, Foot p' d' i → Foot p d i ∨ wr.heap.size ≤ i) (q4 : Ch (Foot p d) wr w') : KpS base F w w' B K d' c := by
  refine ⟨⟨p', q1.trans h1, q2, fun i hi => (q3 i hi).elim (h3 i) fun x => Or.inr (Nat.le_trans h.ch.size x)⟩, (q4.block K (blk_lt h.kp) fun x => ?_).trans h.kp, h.ch.via q4 (fun _ _ x => x) fun i hi x => Or.inl ((h3 i x).elim id fun y => by omega)⟩
  have := hF.lt
  exact (h3 K x).elim hF.off fun y => by omega
theorem KpS.run {r : Value} {f : FuncId} {args : Array Value} (h : KpS base F w wr B K d c) (hF : KpF base F w K) (g : ∀ p : Ph, p.B = B → DevIs base wr p d → (∀ i, Foot p d i → F i ∨ w.heap.size ≤ i) → Calls Tryz.prog f args wr (DPost base p d d' r wr)) :
    Calls Tryz.prog f args wr fun e w' => e = .returned r ∧ KpS base F w w' B K d' c := by
  obtain ⟨p, h1, h2, h3⟩ := h.dev
  refine (g p h1 h2 h3).mono ?_
  rintro e w' ⟨rfl, p', q1, q2, q3, q4⟩
  exact ⟨rfl, h.then hF h1 h3 q1 q2 q3 q4⟩
theorem KpS.row {b o C n : Nat} {z : Nat → Nat} (h : KpS base F w wr B K d c) (hR : RowV w (.slice (some ⟨b, o, none⟩) n C) n z) (hb : ¬ F b) (hk : b ≠ K) : RowV wr (.slice (some ⟨b, o, none⟩) n C) n z :=
  hR.ch' h.ch fun x => x.elim hb hk
theorem KpS.write {b o C n t : Nat} {a : Int} {z : Nat → Nat} (h : KpS base F w wr B K d c) (hF : KpF base F w K) (hR : RowV w (.slice (some ⟨b, o, none⟩) n C) n z) (hb : ¬ F b) (hk : b ≠ K) (hb2 : b < w.heap.size) (hl : Lim d t) (ht : t ≤ 1000000) :
    Calls Tryz.prog 60 #[.pointer (some ⟨B, 0, none⟩), .int .i64 a, .slice (some ⟨b, o, none⟩) n C] wr fun e w' => e = .returned (.int .i64 (writeE d a n)) ∧ KpS base F w w' B K (writeD d a n z) c :=
  h.run hF fun p hp h2 h3 => by
    rw [← hp]
    exact write_any base p d a b o n C z wr h2 (h.row hR hb hk) (fun f => (h3 b f).elim hb fun e => by omega) (by have := hl.ops; omega) (by have := hl.W; omega) (fun a => by have := hl.drops a; omega)
theorem KpS.flush {t : Nat} (h : KpS base F w wr B K d c) (hF : KpF base F w K) (hl : Lim d t) (ht : t ≤ 1000000) :
    Calls Tryz.prog 61 #[.pointer (some ⟨B, 0, none⟩)] wr fun e w' => e = .returned (.int .i64 (flushE d)) ∧ KpS base F w w' B K (flushD d) c :=
  h.run hF fun p hp h2 h3 => by
    rw [← hp]
    exact flush_any base p d wr h2 (by have := hl.W; omega)
theorem KpS.read {t : Nat} {a : Int} (h : KpS base F w wr B K d c) (hF : KpF base F w K) (hl : Lim d t) (ht : t ≤ 1000000) :
    Calls Tryz.prog 108 #[.pointer (some ⟨B, 0, none⟩), .int .i64 a] wr fun e w' => ∃ A C, e = .returned (.tuple #[.slice A (readL d a) C, .int .i64 (readE d a)]) ∧ RowV w' (.slice A (readL d a) C) (readL d a) (readZ d a) ∧ KpS base F w w' B K (readD d a) c := by
  obtain ⟨p, h1, h2, h3⟩ := h.dev
  refine (h1 ▸ read_any base p d a wr h2 (by have := hl.ops; omega) (by have := hl.W; omega)).mono ?_
  rintro e w' ⟨v, rfl, e1, e2, e3⟩
  have hr := ownsRow_rowV e2 (by unfold readL; split <;> omega) (read_bytes h2 a)
  obtain ⟨A, C, rfl, _⟩ := id hr
  have hn : (readD d a).n = d.n := by unfold readD; split <;> rfl
  exact ⟨A, C, rfl, hr, h.then hF h1 h3 rfl e1 (fun i hi => Or.inl ((foot_n hn).1 hi)) e3⟩
theorem KpS.more (h : KpS base F w wr B K d c) (hF : KpF base F w K) {x : Value} (hx : x = .int .i64 ((c + 1 : Nat) : Int)) : KpS base F w (wr.setCell ⟨K, 1, none⟩ x) B K d (c + 1) := by
  subst hx
  obtain ⟨p, h1, h2, h3⟩ := h.dev
  have k : Ch (fun i => i = K) wr (wr.setCell ⟨K, 1, none⟩ (.int .i64 ((c + 1 : Nat) : Int))) := Ch.setCell (S := fun i => i = K) (Ch.refl _ wr) (p := ⟨K, 1, none⟩) (Or.inl rfl) _
  refine ⟨⟨p, h1, h2.ch k fun i hi e => ?_, h3⟩, blk_set h.kp _, h.ch.via k (fun _ _ x => x) fun i _ x => Or.inr x⟩
  subst e
  have := hF.lt
  exact (h3 i hi).elim hF.off fun y => by omega
theorem KpS.put {X : Nat → Prop} {b o sb so sC : Nat} {P : PutP} (h : KpS base F w wr B K d c) (hp : PutIs w X b o sb so sC P) (hX : ∀ i, X i → ¬ F i ∧ i ≠ K) (hb : X b) :
    wr.cell? ⟨b, o, none⟩ = some (.int .i64 P.pl) ∧ wr.cell? ⟨b, o + 1, none⟩ = some (.slice (some ⟨sb, so, none⟩) P.n sC) :=
  ⟨h.ch.cell hp.c0 fun x => x.elim (hX b hb).1 (hX b hb).2, h.ch.cell hp.c1 fun x => x.elim (hX b hb).1 (hX b hb).2⟩
def FN (F : Nat → Prop) (w wr : World) (i : Nat) : Prop := F i ∨ (w.heap.size ≤ i ∧ i < wr.heap.size)
theorem KpF.fn (hF : KpF base F w K) (k : w.heap.size ≤ wr.heap.size) : KpF base (FN F w wr) wr K :=
  ⟨Nat.le_trans hF.le k, fun i hi => hi.elim (fun x => ⟨(hF.low i x).1, Nat.lt_of_lt_of_le (hF.low i x).2 k⟩) fun x => ⟨Nat.le_trans hF.le x.1, x.2⟩, fun hi => hi.elim hF.off fun x => by have := hF.lt; omega, Nat.lt_of_lt_of_le hF.lt k⟩
theorem KpF.gr (hF : KpF base F w K) (k : w.heap.size ≤ w'.heap.size) : KpF base F w' K :=
  ⟨Nat.le_trans hF.le k, fun i hi => ⟨(hF.low i hi).1, Nat.lt_of_lt_of_le (hF.low i hi).2 k⟩, hF.off, Nat.lt_of_lt_of_le hF.lt k⟩
theorem KpS.now (h : KpS base F w wr B K d c) : KpS base (FN F w wr) wr wr B K d c := by
  obtain ⟨p, h1, h2, h3⟩ := h.dev
  exact ⟨⟨p, h1, h2, fun i hi => Or.inl ((h3 i hi).imp id fun x => ⟨x, (h2.foot hi).2⟩)⟩, h.kp, Ch.refl _ wr⟩
theorem KpS.reb (h : KpS base F w w B K d c) (k : Ch (fun _ => False) w w') : KpS base F w' w' B K d c := by
  obtain ⟨p, h1, h2, h3⟩ := h.dev
  exact ⟨⟨p, h1, h2.gr k, fun i hi => Or.inl ((h3 i hi).elim id fun x => by have := (h2.foot hi).2; omega)⟩, (k.block K (blk_lt h.kp) (fun f => f)).trans h.kp, Ch.refl _ w'⟩
theorem KpS.since {c' : Nat} (h : KpS base F w' wr B K d c') (k : Ch (fun _ => False) w w') : KpS base F w wr B K d c' := by
  obtain ⟨p, h1, h2, h3⟩ := h.dev
  exact ⟨⟨p, h1, h2, fun i hi => (h3 i hi).imp id fun x => Nat.le_trans k.size x⟩, h.kp, k.via h.ch (fun _ _ f => f.elim) fun _ _ x => x⟩
theorem KpS.from {c' : Nat} (h : KpS base F w wr B K d c) (q : KpS base (FN F w wr) wr w' B K d' c') : KpS base F w w' B K d' c' := by
  obtain ⟨p, h1, h2, h3⟩ := q.dev
  refine ⟨⟨p, h1, h2, fun i hi => (h3 i hi).elim (fun x => x.imp id fun y => y.1) fun x => Or.inr (Nat.le_trans h.ch.size x)⟩, q.kp, h.ch.via q.ch (fun _ _ x => x) fun i hi x => ?_⟩
  rcases x with (x | x) | x
  · exact Or.inl x
  · omega
  · exact Or.inr x
theorem KpS.lift {r : Value} {f : FuncId} {args : Array Value} {c' : Nat} (h : KpS base F w wr B K d c) (g : Calls Tryz.prog f args wr fun e w' => e = .returned r ∧ KpS base (FN F w wr) wr w' B K d' c') :
    Calls Tryz.prog f args wr fun e w' => e = .returned r ∧ KpS base F w w' B K d' c' :=
  g.mono fun _ _ ⟨he, q⟩ => ⟨he, h.from q⟩
theorem KpS.post {w0 : World} {p : Ph} {d0 : Dev} {r : Value} (h : KpS base (Foot p d0) w wr p.B K d c) (k : Ch (fun _ => False) w0 w) (h0 : w0.heap.size ≤ K) : DPost base p d0 d r w0 (.returned r) wr := by
  obtain ⟨q, h1, h2, h3⟩ := h.dev
  exact ⟨rfl, q, h1, h2, fun i hi => (h3 i hi).imp id fun x => Nat.le_trans k.size x, k.via h.ch (fun _ _ f => f.elim) fun i hi x => x.elim id fun e => by omega⟩
end
end Go.Proofs.YteleknojohnlbaaGreat
namespace Go.Proofs.YteleknojohnlbaaGreat
open Go.RowKit
set_option linter.unusedVariables false
set_option maxRecDepth 100000
theorem size_pc : (Tryz.prog.info? 26).map (·.size) = some 7 := by kernel_rfl
def SlV (V : Value) : Prop := ∃ A n C, V = .slice A n C
theorem one_pc (p : Pn) {V : Value} (h : SlV V) : (pcC p V).all (·.oneCell') = true := by obtain ⟨A, n, C, rfl⟩ := h; unfold pcC; simp [Value.oneCell']
theorem slV_row {w : World} {V : Value} {n : Nat} {z : Nat → Nat} (h : RowV w V n z) : SlV V := by obtain ⟨A, C, e, _⟩ := h; exact ⟨A, n, C, e⟩
theorem slV_nil : SlV (.slice none 0 0) := ⟨_, _, _, rfl⟩
theorem zero_pc (w : World) : (zeroValue 26).run Tryz.prog w = .ok (.agg (pcC pn0 (.slice none 0 0))) w := by kernel_rfl
theorem build_pc (w : World) : (Instr.build 26 #[]).run Tryz.prog w = .ok (.agg (pcC pn0 (.slice none 0 0))) w := by kernel_rfl
theorem load_pc {w : World} {H : Nat} {p : Pn} {V : Value} (h : w.heap[H]? = some (.cells (pcC p V) 26 (0, 0))) : (loadVar 26 ⟨H, 0, none⟩).run Tryz.prog w = .ok (.agg (pcC p V)) w :=
  run_loadVar_row w H _ _ (pcC p V) (0, 0) _ h Tryz.underlying26 rfl (show _ = some 7 by kernel_rfl)
theorem store_pc {w : World} {H : Nat} {a b : Pn} {U V : Value} (h : w.heap[H]? = some (.cells (pcC a U) 26 (0, 0))) (hV : SlV V) :
    (storeVar 26 ⟨H, 0, none⟩ (.agg (pcC b V))).run Tryz.prog w = .ok () (w.setRow H (pcC b V)) :=
  run_storeVar_row w H _ _ (pcC a U) (pcC b V) h size_pc rfl (one_pc b hV)
structure StPc (w w1 : World) (H : Nat) (b : Pn) (V : Value) : Prop where
  st : (storeVar 26 ⟨H, 0, none⟩ (.agg (pcC b V))).run Tryz.prog w = .ok () w1
  cx : w1.heap[H]? = some (.cells (pcC b V) 26 (0, 0))
  ch : Ch (fun j => j = H) w w1
theorem stPc {w : World} {H : Nat} {a : Pn} {U : Value} (b : Pn) {V : Value} (h : w.heap[H]? = some (.cells (pcC a U) 26 (0, 0))) (hV : SlV V) : ∃ w1, StPc w w1 H b V :=
  ⟨_, store_pc h hV, setRow_heap w H (pcC a U) _ _ (0, 0) h, (Ch.refl (fun j => j = H) w).setRow (g := H) (Or.inl rfl) _⟩
structure ZePc (w w1 : World) (H : Nat) : Prop where
  al : w.alloc (.cells (pcC pn0 (.slice none 0 0)) 26) = w1
  sz : w.heap.size = H
  cx : w1.heap[H]? = some (.cells (pcC pn0 (.slice none 0 0)) 26 (0, 0))
  ch : Ch (fun _ => False) w w1
theorem zePc (w : World) : ∃ w1 H, ZePc w w1 H := ⟨_, _, rfl, rfl, heap_alloc_new w _, (Ch.refl _ w).alloc _ _⟩
theorem varPc (p : Pn) {V : Value} (hV : SlV V) (w : World) : ∃ wz wx H, VarR w wz wx H (pcC pn0 (.slice none 0 0)) (pcC p V) 26 :=
  ⟨_, w.alloc (.cells (pcC p V) 26), w.heap.size, rfl, rfl, run_storeVar_new (P := Tryz.prog) w _ _ _ size_pc rfl (one_pc p hV), heap_alloc_new _ _, (Ch.refl _ w).alloc _ _⟩
def PcX (w : World) (H : Nat) (p : Pn) (V : Value) : Prop := (fun w' => w'.cell? ⟨H, 0, none⟩ = some (.int .i64 (p).seq) ∧ w'.cell? ⟨H, 1, none⟩ = some (.int .i64 (p).ep) ∧ w'.cell? ⟨H, 2, none⟩ = some (.int .i64 (p).fr) ∧ w'.cell? ⟨H, 3, none⟩ = some (.int .i64 (p).ch) ∧ w'.cell? ⟨H, 4, none⟩ = some (.int .i64 (p).ix) ∧ w'.cell? ⟨H, 5, none⟩ = some (.int .i64 (p).ofn) ∧ w'.cell? ⟨H, 6, none⟩ = some (V)) w
section
variable {w w' : World} {H : Nat} {p : Pn} {V : Value}
theorem pc_x (h : w.heap[H]? = some (.cells (pcC p V) 26 (0, 0))) : PcX w H p V :=
  ⟨blk_cell h, blk_cell h, blk_cell h, blk_cell h, blk_cell h, blk_cell h, blk_cell h⟩
theorem PcX.ch {S : Nat → Prop} (h : PcX w H p V) (k : Ch S w w') (hS : ¬ S H) : PcX w' H p V := by
  obtain ⟨h0, h1, h2, h3, h4, h5, h6⟩ := h
  exact ⟨k.cell h0 hS, k.cell h1 hS, k.cell h2 hS, k.cell h3 hS, k.cell h4 hS, k.cell h5 hS, k.cell h6 hS⟩
theorem PcX.gr (h : PcX w H p V) (k : Ch (fun _ => False) w w') : PcX w' H p V := h.ch k (fun f => f)
theorem PcX.drew (h : PcX w H p V) : PcX w.drew H p V := h.gr ((Ch.refl _ w).drew)
theorem PcX.all (h : PcX w H p V) : (fun w' => w'.cell? ⟨H, 0, none⟩ = some (.int .i64 (p).seq) ∧ w'.cell? ⟨H, 1, none⟩ = some (.int .i64 (p).ep) ∧ w'.cell? ⟨H, 2, none⟩ = some (.int .i64 (p).fr) ∧ w'.cell? ⟨H, 3, none⟩ = some (.int .i64 (p).ch) ∧ w'.cell? ⟨H, 4, none⟩ = some (.int .i64 (p).ix) ∧ w'.cell? ⟨H, 5, none⟩ = some (.int .i64 (p).ofn) ∧ w'.cell? ⟨H, 6, none⟩ = some (V)) w := h
end
theorem results_pc {fn : Func} {q u : Tmp} (h : fn.results = #[.cell q 26, .tmp u]) (tmps : Array Value) (w : World) (H : Nat) (p : Pn) (V : Value) (hp : tmps.getD q undef = .pointer (some ⟨H, 0, none⟩)) (hg : w.heap[H]? = some (.cells (pcC p V) 26 (0, 0))) :
    (results fn tmps).run Tryz.prog w = .ok (.tuple #[.agg (pcC p V), tmps.getD u undef]) w := by
  rw [results_cell_tmp h, hp]
  simp [asAddr, load_pc hg]
end Go.Proofs.YteleknojohnlbaaGreat
namespace Go.Proofs.YteleknojohnlbaaGreat
open Go.RowKit
set_option linter.unusedVariables false
set_option maxRecDepth 100000
set_option maxHeartbeats 400000 in
theorem rwithin_any (n a b : Int) (w : World) : Calls Tryz.prog 40 #[.int .i64 n, .int .i64 a, .int .i64 b] w fun e w' => e = .returned (.bool (inB n a b)) ∧ w = w' := by
  by_cases h1 : a ≤ n
  · by_cases h2 : n ≤ b
    · have HE := Lib.hid (show inB n a b = true from inB_true.2 ⟨h1, h2⟩)
      have t1 : decide (a ≤ n) = true := decide_eq_true h1
      have t2 : decide (n ≤ b) = true := decide_eq_true h2
      clear h1 h2
      go_enter Tryz.func40, Tryz.ntmps40
      go_wp2
      go_ret
      exact ⟨ret_bool HE.out.symm, rfl⟩
    · have HE := Lib.hid (show inB n a b = false from decide_eq_false fun q => h2 q.2)
      have t1 : decide (a ≤ n) = true := decide_eq_true h1
      have t2 : decide (n ≤ b) = false := decide_eq_false h2
      clear h1 h2
      go_enter Tryz.func40, Tryz.ntmps40
      go_wp2
      go_ret
      exact ⟨ret_bool HE.out.symm, rfl⟩
  · have HE := Lib.hid (show inB n a b = false from decide_eq_false fun q => h1 q.1)
    have t1 : decide (a ≤ n) = false := decide_eq_false h1
    clear h1
    go_enter Tryz.func40, Tryz.ntmps40
    go_wp2
    go_ret
    exact ⟨ret_bool HE.out.symm, rfl⟩
set_option maxHeartbeats 800000 in
theorem rareWords_any (g m : Nat) (f : Nat → Int) (w : World) (hm : m ≤ 8) (h : ∀ i, i < m → w.cell? ⟨g, i, none⟩ = some (.int .i64 (f i))) : Calls Tryz.prog 53 #[.slice (some ⟨g, 0, none⟩) m m] w fun e w' => e = .returned (.bool (wordsTo f m)) ∧ w = w' := by
  have HF := Lib.hid h
  have HM := Lib.hid hm
  clear h hm
  go_enter Tryz.func53, Tryz.ntmps53
  go_wp2
  go_loopw [4, 7, 8, 9, 10, 11, 12, 13, 14] (fun _ i _ _ _ _ _ _ _ wr => ∃ k : Nat, k ≤ m ∧ i = .int .i64 k ∧ wr = w ∧ Hid (wordsTo f k = true)) (fun _ i _ _ _ _ _ _ _ _ => m - (intOf i).toNat)
  case atStart => exact ⟨0, Nat.zero_le _, rfl, rfl, Lib.hid rfl⟩
  case round =>
    obtain ⟨k, hk, rfl, rfl, HK⟩ := hrel
    by_cases hlt : k < m
    · have c1 := HF.out k hlt
      have i1 : (0 : Int) ≤ (k : Int) := Int.natCast_nonneg _
      have i2 : (k : Int) < (m : Int) := by omega
      have i3 : (k : Int) ≤ 8 := by have := HM.out; omega
      have HLT := Lib.hid hlt
      clear hlt
      cases hf : wordB (f k)
      · have HN := Lib.hid (wordsTo_false (f := f) HLT.out hf)
        have HQ := Lib.hid (show inB (f k) 0 4294967295 = false from hf)
        clear hf
        go_wp2_with (go_at_call 40; refine (rwithin_any _ _ _ _).mono ?_; rintro e w' ⟨rfl, rfl⟩; rw [HQ.out])
        go_ret
        exact ⟨ret_bool HN.out.symm, rfl⟩
      · have HN := Lib.hid (show wordsTo f (k + 1) = true by
          show (wordsTo f k && wordB (f k)) = true
          rw [HK.out, hf]; rfl)
        have HQ := Lib.hid (show inB (f k) 0 4294967295 = true from hf)
        clear hf
        go_wp2_with (go_at_call 40; refine (rwithin_any _ _ _ _).mono ?_; rintro e w' ⟨rfl, rfl⟩; rw [HQ.out])
        go_roundw
        case rel => exact ⟨k + 1, HLT.out, by go_num, by trivial, HN⟩
        case measure => have := HLT.out; simp [intOf]; omega
    · obtain rfl : k = m := by omega
      clear hlt hk
      go_wp2
      go_ret
      exact ⟨ret_bool HK.out.symm, rfl⟩
set_option maxHeartbeats 400000 in
theorem raddr_any (g : Ge) (mir slot : Int) (w : World) (hg : mayG g = true) (hm : 0 ≤ mir ∧ mir ≤ 1) (hs : 0 ≤ slot ∧ slot < g.wal) : Calls Tryz.prog 42 #[.agg (geC g), .int .i64 mir, .int .i64 slot] w (Ans (.int .i64 (addrR g mir slot)) w) := by
  obtain ⟨w1, H, hR⟩ := geR w g
  obtain ⟨x0, x1, x2, x3⟩ := hR.x
  have HR := Lib.hid hR
  have HA := Lib.hid (show addrR g mir slot = 4 + mir * g.wal + slot from rfl)
  obtain ⟨⟨a1, a2⟩, _⟩ := may_parts hg
  have HB : Hid (0 ≤ mir * g.wal ∧ mir * g.wal ≤ 512) := by
    refine Lib.hid ?_
    obtain rfl | rfl : mir = 0 ∨ mir = 1 := by omega
    · omega
    · omega
  obtain ⟨W, hW⟩ : ∃ W, W = g.wal := ⟨_, rfl⟩
  rw [← hW] at HA HB x0 hs a2
  obtain ⟨X, hX⟩ : ∃ X, X = mir * W := ⟨_, rfl⟩
  have hw : wrap64 (mir * W) = X := by rw [hX]; exact IntWalk.wrap64_in _ ⟨by have := HB.out; omega, by have := HB.out; omega⟩
  have b1 : 0 ≤ X := by rw [hX]; exact HB.out.1
  have b2 : X ≤ 512 := by rw [hX]; exact HB.out.2
  rw [← hX] at HA
  obtain ⟨b3, b4⟩ := hs
  have b5 : slot ≤ 512 := by omega
  clear hR HB hW hX x1 x2 x3 hm a1 b4 a2 hg
  go_enter Tryz.func42, Tryz.ntmps42
  go_wp2_with ((with_reducible refine wpList_isOp (.box 23 (.tmp 0)) rfl ?_); refine wpList_boxing _ w1 rfl 23 (.tmp 0) rfl (geC g) H rfl (by exact HR.out.sz) (by exact HR.out.al) ?_)
  go_ret
  exact ⟨ret_int HA.out.symm, HR.out.ch⟩
theorem words_piece (p : Pn) : wordsTo (fourI p.seq p.ep p.fr p.ch) 4 = wordsP p := by
  show ((((true && wordS p.seq) && wordS p.ep) && wordS p.fr) && wordS p.ch) = _
  unfold wordsP
  rw [Bool.true_and, Bool.and_assoc, Bool.and_assoc]
set_option maxHeartbeats 3200000 in
theorem rgMay_any (p : Pn) (A : Option Addr) (C : Nat) (w : World) (hl : p.B.length ≤ 140737488351232) : Calls Tryz.prog 18 #[.agg (pcC p (.slice A p.B.length C))] w (Ans (.bool (mayP p)) w) := by
  obtain ⟨w1, H, hR⟩ := boxR w (pcC p (.slice A p.B.length C)) 26
  obtain ⟨x0, x1, x2, x3, x4, x5, x6⟩ := pc_x hR.cx
  obtain ⟨w2, hw2⟩ : ∃ w2, w2 = w1.alloc (.cells #[.int .i64 p.seq, .int .i64 p.ep, .int .i64 p.fr, .int .i64 p.ch] /-t-/3) := ⟨_, rfl⟩
  have hc : Ch (fun _ => False) w1 w2 := by rw [hw2]; exact (Ch.refl _ w1).alloc _ _
  obtain ⟨y0, y1, y2, y3, y4, y5, y6⟩ := (pc_x hR.cx).gr hc
  have HC := Lib.hid (hR.ch.trans hc)
  have HF := Lib.hid (fun i (hi : i < 4) => four_cell (w := w2) (g := w1.heap.size) (i := i) (by rw [hw2]; exact heap_alloc_new w1 _) hi)
  have HP := Lib.hid (show mayP p = (wordsP p && (decide (p.fr ≤ p.seq) && (inB p.ofn 1 64 && (inB p.ix 0 (p.ofn - 1) && decide (p.B.length ≤ 200))))) from rfl)
  have HW := Lib.hid (words_piece p)
  have HR := Lib.hid hR
  have HW2 := Lib.hid hw2
  obtain ⟨n, hn⟩ : ∃ n, n = p.B.length := ⟨_, rfl⟩
  rw [← hn] at HP x6 y6 hl HR ⊢
  clear hR hc hw2 hn
  cases q1 : wordsP p
  · have HE := Lib.hid (show mayP p = false by rw [HP.out, q1]; rfl)
    rw [q1] at HW
    clear q1 HP
    go_enter Tryz.func18, Tryz.ntmps18
    go_wp2_with (first | ((with_reducible refine wpList_isOp (.box 26 (.tmp 0)) rfl ?_); refine wpList_boxing _ w1 rfl 26 (.tmp 0) rfl (pcC p (.slice A n C)) H rfl (by exact HR.out.sz) (by exact HR.out.al) ?_) | (go_at_call 53; rw [← HW2.out]; refine (rareWords_any w1.heap.size 4 _ w2 (by omega) HF.out).mono ?_; rintro e w' ⟨rfl, rfl⟩; rw [HW.out]))
    go_ret
    exact ⟨ret_bool HE.out.symm, HC.out⟩
  rw [q1] at HW
  by_cases q2 : p.fr ≤ p.seq
  · have t2 : decide (p.fr ≤ p.seq) = true := decide_eq_true q2
    cases q3 : inB p.ofn 1 64
    · have HE := Lib.hid (show mayP p = false by rw [HP.out, q1, t2, q3]; rfl)
      have H3 := Lib.hid q3
      clear q1 q3 HP q2
      go_enter Tryz.func18, Tryz.ntmps18
      go_wp2_with (first | ((with_reducible refine wpList_isOp (.box 26 (.tmp 0)) rfl ?_); refine wpList_boxing _ w1 rfl 26 (.tmp 0) rfl (pcC p (.slice A n C)) H rfl (by exact HR.out.sz) (by exact HR.out.al) ?_) | (go_at_call 53; rw [← HW2.out]; refine (rareWords_any w1.heap.size 4 _ w2 (by omega) HF.out).mono ?_; rintro e w' ⟨rfl, rfl⟩; rw [HW.out]) | (go_at_call 40; refine (rwithin_any _ _ _ _).mono ?_; rintro e w' ⟨rfl, rfl⟩; rw [H3.out]))
      go_ret
      exact ⟨ret_bool HE.out.symm, HC.out⟩
    have b3 := inB_true.1 q3
    cases q4 : inB p.ix 0 (p.ofn - 1)
    · have HE := Lib.hid (show mayP p = false by rw [HP.out, q1, t2, q3, q4]; rfl)
      have H3 := Lib.hid q3
      have H4 := Lib.hid q4
      clear q1 q3 q4 HP q2
      go_enter Tryz.func18, Tryz.ntmps18
      go_wp2_with (first | ((with_reducible refine wpList_isOp (.box 26 (.tmp 0)) rfl ?_); refine wpList_boxing _ w1 rfl 26 (.tmp 0) rfl (pcC p (.slice A n C)) H rfl (by exact HR.out.sz) (by exact HR.out.al) ?_) | (go_at_call 53; rw [← HW2.out]; refine (rareWords_any w1.heap.size 4 _ w2 (by omega) HF.out).mono ?_; rintro e w' ⟨rfl, rfl⟩; rw [HW.out]) | (go_at_call 40; refine (rwithin_any _ _ _ _).mono ?_; rintro e w' ⟨rfl, rfl⟩; first | rw [H3.out] | rw [H4.out]))
      go_ret
      exact ⟨ret_bool HE.out.symm, HC.out⟩
    have HE := Lib.hid (show mayP p = decide (n ≤ 200) by rw [HP.out, q1, t2, q3, q4]; rfl)
    have H3 := Lib.hid q3
    have H4 := Lib.hid q4
    clear q1 q3 q4 HP q2
    by_cases q5 : n ≤ 200
    · have t5 : decide ((n : Int) ≤ 200) = true := by simp; omega
      have H5 := Lib.hid (show decide (n ≤ 200) = true from decide_eq_true q5)
      clear q5
      go_enter Tryz.func18, Tryz.ntmps18
      go_wp2_with (first | ((with_reducible refine wpList_isOp (.box 26 (.tmp 0)) rfl ?_); refine wpList_boxing _ w1 rfl 26 (.tmp 0) rfl (pcC p (.slice A n C)) H rfl (by exact HR.out.sz) (by exact HR.out.al) ?_) | (go_at_call 53; rw [← HW2.out]; refine (rareWords_any w1.heap.size 4 _ w2 (by omega) HF.out).mono ?_; rintro e w' ⟨rfl, rfl⟩; rw [HW.out]) | (go_at_call 40; refine (rwithin_any _ _ _ _).mono ?_; rintro e w' ⟨rfl, rfl⟩; first | rw [H3.out] | rw [H4.out]))
      go_ret
      exact ⟨ret_bool (by rw [HE.out, H5.out]), HC.out⟩
    · have t5 : decide ((n : Int) ≤ 200) = false := by simp; omega
      have H5 := Lib.hid (show decide (n ≤ 200) = false from decide_eq_false q5)
      clear q5
      go_enter Tryz.func18, Tryz.ntmps18
      go_wp2_with (first | ((with_reducible refine wpList_isOp (.box 26 (.tmp 0)) rfl ?_); refine wpList_boxing _ w1 rfl 26 (.tmp 0) rfl (pcC p (.slice A n C)) H rfl (by exact HR.out.sz) (by exact HR.out.al) ?_) | (go_at_call 53; rw [← HW2.out]; refine (rareWords_any w1.heap.size 4 _ w2 (by omega) HF.out).mono ?_; rintro e w' ⟨rfl, rfl⟩; rw [HW.out]) | (go_at_call 40; refine (rwithin_any _ _ _ _).mono ?_; rintro e w' ⟨rfl, rfl⟩; first | rw [H3.out] | rw [H4.out]))
      go_ret
      exact ⟨ret_bool (by rw [HE.out, H5.out]), HC.out⟩
  · have t2 : decide (p.fr ≤ p.seq) = false := decide_eq_false q2
    have HE := Lib.hid (show mayP p = false by rw [HP.out, q1, t2]; rfl)
    clear q1 q2 HP
    go_enter Tryz.func18, Tryz.ntmps18
    go_wp2_with (first | ((with_reducible refine wpList_isOp (.box 26 (.tmp 0)) rfl ?_); refine wpList_boxing _ w1 rfl 26 (.tmp 0) rfl (pcC p (.slice A n C)) H rfl (by exact HR.out.sz) (by exact HR.out.al) ?_) | (go_at_call 53; rw [← HW2.out]; refine (rareWords_any w1.heap.size 4 _ w2 (by omega) HF.out).mono ?_; rintro e w' ⟨rfl, rfl⟩; rw [HW.out]))
    go_ret
    exact ⟨ret_bool HE.out.symm, HC.out⟩
end Go.Proofs.YteleknojohnlbaaGreat
