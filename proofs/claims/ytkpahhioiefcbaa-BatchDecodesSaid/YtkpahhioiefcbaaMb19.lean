/-
  join of two of a node's children, walked. Trees that are parted and joined; set of a node's child, walked.
-/
import Derived.Test.YtkpahhioiefcbaaMb17
import Derived.Test.YtkpahhioiefcbaaMb18
namespace Go.Proofs.Ytkpahhioiefcbaa
open Go.RowKit
set_option linter.unusedVariables false
set_option maxRecDepth 100000
set_option linter.unusedSimpArgs false

/-- What a join answers: one child in the place of two, or two again. -/
def JoinP (w0 w : World) (nb : Nat) (vp vc : Value) (a b : List Kv) (p : Kv) (cA cB : List Nat) (ql qr : List Kv) (dl dr : List Nat) (e : Ending) (w' : World) : Prop :=
  ∃ vp' vc' ps' cs', e = .returned (.tuple #[]) ∧ OwnN w0 w' nb vp' vc' ps' cs' ∧ (∀ i, OwnS nb vp' vc' i → OwnS nb vp vc i ∨ w.heap.size ≤ i) ∧ Ch (OwnS nb vp vc) w w' ∧
    ((ql.length + qr.length + 1 ≤ 7 ∧ ps' = a ++ b ∧ ∃ ob, cs' = cA ++ ob :: cB ∧ NdAt (fun i => w.heap.size ≤ i ∧ ¬ OwnS nb vp' vc' i) w' ob (ql ++ p :: qr) (dl ++ dr)) ∨
     (7 < ql.length + qr.length + 1 ∧ ∃ q1 x q2 d1 d2 lb rb, ql ++ p :: qr = q1 ++ x :: q2 ∧ dl ++ dr = d1 ++ d2 ∧ q1.length = (ql.length + qr.length + 1) / 2 ∧ ((d1 = [] ∧ d2 = []) ∨ (d1.length = q1.length + 1 ∧ d2.length = q2.length + 1)) ∧ ps' = a ++ x :: b ∧ cs' = cA ++ lb :: rb :: cB ∧
       NdAt (fun i => w.heap.size ≤ i ∧ ¬ OwnS nb vp' vc' i) w' lb q1 d1 ∧ NdAt (fun i => w.heap.size ≤ i ∧ ¬ OwnS nb vp' vc' i) w' rb q2 d2))
/-- Three rows of pairs, made tto one. -/
theorem conc3_any (b : Nat) (A1 A2 A3 : Option Addr) (C1 C2 C3 : Nat) (L1 L2 L3 : List Kv) (w : World) (T : TypeId) (hb : w.heap[b]? = some (.cells #[.slice A1 L1.length C1, .slice A2 L2.length C2, .slice A3 L3.length C3] T (0, 0))) (h1 : FlV kdPr w A1 C1 L1) (h2 : FlV kdPr w A2 C2 L2) (h3 : FlV kdPr w A3 C3 L3) (hl : L1.length + L2.length + L3.length ≤ 1000) :
    Calls Try.prog 74 #[.slice (some ⟨b, 0, none⟩) 3 3] w (RowS kdPr w (L1 ++ (L2 ++ L3)).length (L1 ++ (L2 ++ L3))) := by
  have h := concPr_any b [(A1, C1, L1), (A2, C2, L2), (A3, C3, L3)] w T hb (fun x hx => by
    simp only [List.mem_cons, List.not_mem_nil, or_false] at hx
    rcases hx with rfl | rfl | rfl
    · exact h1
    · exact h2
    · exact h3) (fun k => by
    match k with
    | 0 => simp [catLen]
    | 1 => simp [catLen]; omega
    | 2 => simp [catLen]; omega
    | k + 3 => simp [catLen]; omega) (by simp)
  refine h.mono fun e w' q => ?_
  have := q.form
  simp only [List.flatMap_cons, List.flatMap_nil, List.append_nil] at this
  exact this
theorem conc2_any (b : Nat) (A1 A2 : Option Addr) (C1 C2 : Nat) (L1 L2 : List Nat) (w : World) (T : TypeId) (hb : w.heap[b]? = some (.cells #[.slice A1 L1.length C1, .slice A2 L2.length C2] T (0, 0))) (h1 : FlV kdNd w A1 C1 L1) (h2 : FlV kdNd w A2 C2 L2) (hl : L1.length + L2.length ≤ 1000) :
    Calls Try.prog 75 #[.slice (some ⟨b, 0, none⟩) 2 2] w (RowS kdNd w (L1 ++ L2).length (L1 ++ L2)) := by
  have h := concNd_any b [(A1, C1, L1), (A2, C2, L2)] w T hb (fun x hx => by
    simp only [List.mem_cons, List.not_mem_nil, or_false] at hx
    rcases hx with rfl | rfl
    · exact h1
    · exact h2) (fun k => by
    match k with
    | 0 => simp [catLen]
    | 1 => simp [catLen]; omega
    | k + 2 => simp [catLen]; omega) (by simp)
  refine h.mono fun e w' q => ?_
  have := q.form
  simp only [List.flatMap_cons, List.flatMap_nil, List.append_nil] at this
  exact this
#print axioms conc2_any
/-- slices.Delete of one pair. -/
theorem delete_any (w0 w : World) (v : Value) (A B : List Kv) (p : Kv) (h : FlO kdPr w0 w v (A ++ p :: B)) (hn : A.length + B.length ≤ 1000) :
    Calls Try.prog 55 #[v, .int .i64 (A.length : Int), .int .i64 ((A.length : Int) + 1)] w (InsP kdPr w0 w v (A ++ B)) := by
  rcases h.parts kdPr_ok with ⟨_, e⟩ | ⟨g, cap, R, rfl, hg⟩
  · simp at e
  · have hl : (A ++ p :: B).length = A.length + B.length + 1 := by simp only [List.length_append, List.length_cons]; omega
    rw [hl]
    exact delete_some w0 w g cap A B p R hg hn
theorem alloc_any (w : World) (o : Obj) : (w.alloc o).heap[w.heap.size]? = some o := by
  show (w.heap.push o)[w.heap.size]? = some o
  exact Array.getElem?_push_size
theorem alloc2_old (w : World) (x y : Obj) : ((w.alloc x).alloc y).heap[w.heap.size]? = some x := by
  rw [Below.heap_alloc _ _ _ (by simp)]
  exact alloc_any w x
theorem alloc2_new (w : World) (x y : Obj) : ((w.alloc x).alloc y).heap[w.heap.size + 1]? = some y := by
  have := alloc_any (w.alloc x) y
  rwa [World.size_alloc] at this
/-- The world behind the join itself. -/
structure JnS (w0 w w9 : World) (nb : Nat) (vp vc v5 v8 : Value) (ps : List Kv) (cA cB : List Nat) (ob : Nat) (qs : List Kv) (ds : List Nat) : Prop where
  own : OwnN w0 w9 nb v5 v8 ps (cA ++ ob :: cB)
  g : ∀ i, OwnS nb v5 v8 i → OwnS nb vp vc i ∨ w.heap.size ≤ i
  ch : Ch (OwnS nb vp vc) w w9
  nd : NdAt (fun i => w.heap.size ≤ i ∧ ¬ OwnS nb v5 v8 i) w9 ob qs ds
  lo : w0.heap.size ≤ w.heap.size
theorem join_st {w0 w w4 w6 w7 w9 : World} {nb ob : Nat} {vp vc v5 v8 vq vd : Value} {ps ps2 qs : List Kv} {cs cA cB ds : List Nat} (hlo : w0.heap.size ≤ w.heap.size) (h0 : OwnN w0 w nb vp vc ps cs) (hone : OwnN w w4 ob vq vd qs ds) (hqs : qs.length ≤ 1000) (hds : ds.length ≤ 1000) (k4 : Ch (fun _ => False) w w4)
    (k6 : Ch (OwnS nb vp vc) w4 w6) (hb5 : v5.ownBlock = vp.ownBlock ∨ ∀ i, v5.ownBlock = some i → w4.heap.size ≤ i) (k7 : Ch (fun _ => False) w6 w7) (k9 : Ch (OwnS nb v5 vc) w7 w9) (own9 : OwnN w0 w9 nb v5 v8 ps2 (cA ++ ob :: cB)) (hb8 : v8.ownBlock = vc.ownBlock ∨ ∀ i, v8.ownBlock = some i → w7.heap.size ≤ i) : JnS w0 w w9 nb vp vc v5 v8 ps2 cA cB ob qs ds := by
  have z4 := k4.size
  have z6 := k6.size
  have z7 := k7.size
  have F0 : ∀ i, OwnS nb vp vc i → i < w.heap.size := fun i hi => (h0.at hi).2
  have G5 : ∀ i, OwnS nb v5 vc i → OwnS nb vp vc i ∨ w4.heap.size ≤ i := fun i hi => by
    rcases hi with e | e | e
    · exact Or.inl (Or.inl e)
    · rcases hb5 with q | q
      · exact Or.inl (Or.inr (Or.inl (q ▸ e)))
      · exact Or.inr (q i e)
    · exact Or.inl (Or.inr (Or.inr e))
  have G8 : ∀ i, OwnS nb v5 v8 i → OwnS nb vp vc i ∨ w4.heap.size ≤ i := fun i hi => by
    rcases hi with e | e | e
    · exact Or.inl (Or.inl e)
    · exact G5 i (Or.inr (Or.inl e))
    · rcases hb8 with q | q
      · exact Or.inl (Or.inr (Or.inr (q ▸ e)))
      · have := q i e; exact Or.inr (by omega)
  have t6 : OwnN w w6 ob vq vd qs ds := hone.ch k6 fun i hi hs => by
    have := (hone.at hi).1
    have := F0 i hs
    omega
  have t9 : OwnN w w9 ob vq vd qs ds := (t6.gr k7).ch k9 fun i hi hs => by
    have h1 := hone.at hi
    rcases G5 i hs with q | q
    · have := F0 i q; omega
    · omega
  refine ⟨own9, fun i hi => (G8 i hi).imp id fun q => by omega, (((k4.mono fun _ _ f => f.elim).trans k6).trans (k7.mono fun _ _ f => f.elim)).trans2 k9 fun i hi t => (G5 i t).resolve_right (by omega), t9.read hqs hds fun i hi => ?_, hlo⟩
  have h1 := hone.at hi
  refine ⟨h1.1, fun hs => ?_⟩
  rcases G8 i hs with q | q
  · have := F0 i q; omega
  · omega
theorem ptr1_slice (x : Nat) (W : World) : (Instr.buildSlice 87 1 #[(0, .pointer (some ⟨x, 0, none⟩))]).run Try.prog W = .ok (.slice (some ⟨W.heap.size, 0, none⟩) 1 1) (W.alloc (.cells #[.pointer (some ⟨x, 0, none⟩)] 36)) := by
  obtain ⟨i0, hi, hz0, hz1, hz2⟩ := info_parts kdNd_ok.inf
  refine run_buildSlice (P := Try.prog) W _ _ 1 _ _ i0 _ kdNd_ok.un hi hz0 (by rw [hz1]; simp [kdNd]) (by rw [hz1]; decide) ?_
  rw [hz1]
  have := Great.fill_whole (s := 1) (by omega) [Value.pointer (some ⟨x, 0, none⟩)] (Array.map (fun x => kdNd.z.cells[x % kdNd.z.cells.size]!) (Array.range (1 * kdNd.k))) (fun v hv => by
    simp only [List.mem_cons, List.not_mem_nil, or_false] at hv
    rcases hv with rfl; rfl) (by simp [kdNd])
  simpa [Value.cells, kdNd] using this
theorem mid_split (qs : List Kv) (ds : List Nat) (h : 0 < qs.length) (hd : ds = [] ∨ ds.length = qs.length + 1) : ∃ q1 x q2 d1 d2, qs = q1 ++ x :: q2 ∧ ds = d1 ++ d2 ∧ q1.length = qs.length / 2 ∧ ((d1 = [] ∧ d2 = []) ∨ (d1.length = q1.length + 1 ∧ d2.length = q2.length + 1)) := by
  obtain ⟨q1, r, e1, h1⟩ := list_cut qs (qs.length / 2) (by omega)
  cases r with
  | nil =>
    have := congrArg List.length e1
    rw [List.append_nil] at this
    omega
  | cons x q2 =>
    have hl := congrArg List.length e1
    rw [List.length_append, List.length_cons] at hl
    rcases hd with rfl | hd
    · exact ⟨q1, x, q2, [], [], e1, rfl, h1, Or.inl ⟨rfl, rfl⟩⟩
    · obtain ⟨d1, d2, e2, h2⟩ := list_cut ds (q1.length + 1) (by omega)
      have hl2 := congrArg List.length e2
      rw [List.length_append] at hl2
      exact ⟨q1, x, q2, d1, d2, e1, e2, h1, Or.inr ⟨h2, by omega⟩⟩
theorem JnS.done {w0 w w9 : World} {nb : Nat} {vp vc v5 v8 : Value} {a b : List Kv} {p : Kv} {cA cB : List Nat} {ob : Nat} {ql qr : List Kv} {dl dr : List Nat} (h : JnS w0 w w9 nb vp vc v5 v8 (a ++ b) cA cB ob (ql ++ p :: qr) (dl ++ dr)) (hl : ql.length + qr.length + 1 ≤ 7) : JoinP w0 w nb vp vc a b p cA cB ql qr dl dr (.returned (.tuple #[])) w9 :=
  ⟨v5, v8, _, _, rfl, h.own, h.g, h.ch, Or.inl ⟨hl, rfl, ob, rfl, h.nd⟩⟩
theorem JnS.cut {w0 w w9 w10 : World} {nb : Nat} {vp vc v5 v8 : Value} {a b : List Kv} {p : Kv} {cA cB : List Nat} {ob : Nat} {ql qr : List Kv} {dl dr : List Nat} {q1 q2 : List Kv} {x : Kv} {d1 d2 : List Nat} {e : Ending} (h : JnS w0 w w9 nb vp vc v5 v8 (a ++ b) cA cB ob (ql ++ p :: qr) (dl ++ dr)) (hl : 7 < ql.length + qr.length + 1) (e1 : ql ++ p :: qr = q1 ++ x :: q2) (e2 : dl ++ dr = d1 ++ d2) (e3 : q1.length = (ql.length + qr.length + 1) / 2) (e4 : (d1 = [] ∧ d2 = []) ∨ (d1.length = q1.length + 1 ∧ d2.length = q2.length + 1)) (hs : SplitP w0 w9 nb v5 v8 a b cA cB q1 q2 x d1 d2 e w10) : JoinP w0 w nb vp vc a b p cA cB ql qr dl dr e w10 := by
  obtain ⟨vp', vc', lb, rb, rfl, ho, hg, h1, h2, hc⟩ := hs
  have z := h.ch.size
  refine ⟨vp', vc', _, _, rfl, ho, fun i hi => ?_, h.ch.trans2 hc fun i hi t => (h.g i t).resolve_right (by omega), Or.inr ⟨hl, q1, x, q2, d1, d2, lb, rb, e1, e2, e3, e4, rfl, rfl, h1.mono fun i hi _ => ⟨by have := hi.1; omega, hi.2⟩, h2.mono fun i hi _ => ⟨by have := hi.1; omega, hi.2⟩⟩⟩
  rcases hg i hi with q | q
  · exact h.g i q
  · exact Or.inr (by omega)
/-- The answer of what makes a row, of one's own since w. -/
def RowW {α : Type} (K : Kf α) (w0 w : World) (n : Nat) (L : List α) (e : Ending) (w' : World) : Prop := ∃ A C, e = .returned (.slice A n C) ∧ FlO K w0 w' (.slice A n C) L ∧ Ch (fun _ => False) w w'
theorem RowS.low {α : Type} {K : Kf α} {w0 w : World} {n : Nat} {L : List α} {e : Ending} {w' : World} (h : RowS K w n L e w') (k : Ch (fun _ => False) w0 w) : RowW K w0 w n L e w' := by
  obtain ⟨A, C, e1, h1, h2⟩ := h
  exact ⟨A, C, e1, h1.low k.size, h2⟩
set_option maxHeartbeats 6400000 in
theorem join_any {F : Nat → Prop} {w0 w : World} {nb : Nat} {vp vc : Value} {a b : List Kv} {p : Kv} {cA cB : List Nat} {l r : Nat} {ql qr : List Kv} {dl dr : List Nat} (h : OwnN w0 w nb vp vc (a ++ p :: b) (cA ++ l :: r :: cB)) (hcl : NdAt F w l ql dl) (hcr : NdAt F w r qr dr) (hF : ∀ i, F i → ¬ OwnS nb vp vc i)
    (hl : a.length = cA.length) (hab : a.length + b.length ≤ 100) (hcb : cB.length ≤ 100) (hql : ql.length ≤ 40) (hqr : qr.length ≤ 40) (hw0 : w0.heap.size ≤ w.heap.size) (hd : (dl = [] ∧ dr = []) ∨ (dl.length = ql.length + 1 ∧ dr.length = qr.length + 1)) :
    Calls Try.prog 67 #[.pointer (some ⟨nb, 0, none⟩), .int .i64 (a.length : Int)] w (JoinP w0 w nb vp vc a b p cA cB ql qr dl dr) := by
  obtain ⟨hFl, A1, C1, A2, C2, hb1, hp1, hn1⟩ := hcl
  obtain ⟨hFr, A3, C3, A4, C4, hb2, hp2, hn2⟩ := hcr
  obtain ⟨Ap, Cp, rfl⟩ := h.pr.len
  obtain ⟨pl, hpl⟩ : ∃ pl, pl = (a ++ p :: b).length := ⟨_, rfl⟩
  obtain ⟨Ac, Cc, rfl⟩ := h.nd.len
  obtain ⟨t, ht⟩ : ∃ t, t = (cA ++ l :: r :: cB).length := ⟨_, rfl⟩
  rw [← hpl, ← ht] at h hF ⊢
  have hrp := h.pr
  have hrn := h.nd
  rw [hpl] at hrp
  rw [ht] at hrn
  have hvp := hrp.read kdPr_ok (by simp; omega)
  have hvn := hrn.read kdNd_ok (by simp; omega)
  obtain ⟨gp, op, rfl, _⟩ := hvp.at' (by simp only [List.length_append, List.length_cons]; omega)
  obtain ⟨gc, oc, rfl, hcc⟩ := hvn.at' (by simp only [List.length_append, List.length_cons]; omega)
  have k1 : kdNd.k = 1 := rfl
  have e0 : w.cell? ⟨nb, 0, none⟩ = some (.slice (some ⟨gp, op, none⟩) pl Cp) := by rw [blk_cell h.blk]; rfl
  have e1 : w.cell? ⟨nb, 1, none⟩ = some (.slice (some ⟨gc, oc, none⟩) t Cc) := by rw [blk_cell h.blk]; rfl
  have e2 : w.cell? ⟨gc, oc + a.length, none⟩ = some (.pointer (some ⟨l, 0, none⟩)) := by
    have := hcc a.length l (by rw [hl, List.getElem?_append_right (Nat.le_refl _)]; simp) 0 _ rfl
    rw [k1, Nat.mul_one] at this; exact this
  have e3 : w.cell? ⟨gc, oc + (a.length + 1), none⟩ = some (.pointer (some ⟨r, 0, none⟩)) := by
    have := hcc (a.length + 1) r (by rw [hl, List.getElem?_append_right (by omega)]; simp) 0 _ rfl
    rw [k1, Nat.mul_one] at this; exact this
  have l0 : w.cell? ⟨l, 0, none⟩ = some (.slice A1 ql.length C1) := by rw [blk_cell hb1]; rfl
  have l1 : w.cell? ⟨l, 1, none⟩ = some (.slice A2 dl.length C2) := by rw [blk_cell hb1]; rfl
  have r0 : w.cell? ⟨r, 0, none⟩ = some (.slice A3 qr.length C3) := by rw [blk_cell hb2]; rfl
  have r1 : w.cell? ⟨r, 1, none⟩ = some (.slice A4 dr.length C4) := by rw [blk_cell hb2]; rfl
  obtain ⟨i, hi⟩ : ∃ i, i = a.length := ⟨_, rfl⟩
  obtain ⟨N1, hN1⟩ : ∃ n, n = ql.length := ⟨_, rfl⟩
  obtain ⟨N2, hN2⟩ : ∃ n, n = dl.length := ⟨_, rfl⟩
  obtain ⟨N3, hN3⟩ : ∃ n, n = qr.length := ⟨_, rfl⟩
  obtain ⟨N4, hN4⟩ : ∃ n, n = dr.length := ⟨_, rfl⟩
  have hpl' : pl = a.length + 1 + b.length := by rw [hpl]; simp; omega
  have ht' : t = cA.length + 2 + cB.length := by rw [ht]; simp; omega
  have hpc := hvp.cap
  rw [← hpl] at hpc
  have hf1 : ∀ W, Ch (fun _ => False) w W → FlV kdPr W (some ⟨gp, op + i * 2, none⟩) (Cp - i) [p] := fun W k => by
    have q1 := ((hvp.gr k).back a.length (by simp))
    rw [List.drop_left] at q1
    have q2 := q1.front 1
    rw [hi]
    exact q2
  have hC3 : ∀ W B, Ch (fun _ => False) w W → W.heap[B]? = some (.cells #[.slice A1 N1 C1, .slice (some ⟨gp, op + i * 2, none⟩) 1 (Cp - i), .slice A3 N3 C3] 86 (0, 0)) →
      Calls Try.prog 74 #[.slice (some ⟨B, 0, none⟩) 3 3] W (RowW kdPr w W (ql ++ p :: qr).length (ql ++ p :: qr)) := fun W B k hB => by
    rw [hN1, hN3] at hB
    exact (conc3_any B A1 (some ⟨gp, op + i * 2, none⟩) A3 C1 (Cp - i) C3 ql [p] qr W _ hB (hp1.v.gr k) (hf1 W k) (hp2.v.gr k) (by simp; omega)).mono fun e w' q => RowS.low q k
  have hC2 : ∀ W B, Ch (fun _ => False) w W → W.heap[B]? = some (.cells #[.slice A2 N2 C2, .slice A4 N4 C4] 87 (0, 0)) →
      Calls Try.prog 75 #[.slice (some ⟨B, 0, none⟩) 2 2] W (RowW kdNd w W (dl ++ dr).length (dl ++ dr)) := fun W B k hB => by
    rw [hN2, hN4] at hB
    exact (conc2_any B A2 A4 C2 C4 dl dr W _ hB (hn1.v.gr k) (hn2.v.gr k) (by
      rcases hd with ⟨q1, q2⟩ | ⟨q1, q2⟩
      · rw [q1, q2]; simp
      · omega)).mono fun e w' q => RowS.low q k
  rw [← hi] at e2 e3 ⊢
  rw [← hN1] at l0
  rw [← hN2] at l1
  rw [← hN3] at r0
  rw [← hN4] at r1
  obtain ⟨P, hP⟩ : ∃ n, n = (ql ++ p :: qr).length := ⟨_, rfl⟩
  obtain ⟨D, hD⟩ : ∃ n, n = (dl ++ dr).length := ⟨_, rfl⟩
  rw [← hP] at hC3
  rw [← hD] at hC2
  have i0 : (0 : Int) ≤ (i : Int) := Int.natCast_nonneg _
  have i1 : (i : Int) + 1 < (t : Int) := by omega
  have i2 : (i : Int) < (t : Int) := by omega
  have i3 : (i : Int) + 1 ≤ (pl : Int) := by omega
  have i4 : (i : Int) ≤ 100 := by omega
  have i5 : ((i : Int) + 1).toNat = i + 1 := by omega
  have i6 : (0 : Int) ≤ (i : Int) + 1 := by omega
  have i7 : (pl : Int) ≤ (Cp : Int) := by omega
  have i8 : ¬ Cp = i := by omega
  have i9 : (i : Int) + 1 ≤ (Cp : Int) := by omega
  have j1 : (i : Int) ≤ (i : Int) + 1 := by omega
  have j2 : IntKind.i64.wrap ((i : Int) + 1) = (i : Int) + 1 := by rw [IntKind.wrap_i64]; omega
  have j3 : i ≤ Cp := by omega
  have j4 : i + 1 ≤ Cp := by omega
  have HC3 := Lib.hid hC3
  have HC2 := Lib.hid hC2
  have HO := Lib.hid h
  have HI := Lib.hid (And.intro hi (And.intro hpl ht))
  have HNN := Lib.hid (And.intro hN1 (And.intro hN2 (And.intro hN3 hN4)))
  have HPD := Lib.hid (And.intro hP hD)
  clear hC3 hC2 h hi hpl ht hN1 hN2 hN3 hN4 hP hD hpl' ht' hpc hf1 hb1 hp1 hn1 hb2 hp2 hn2 hrp hrn hvp hvn hcc
  go_enter Try.func67, Try.ntmps67
  go_wp2_with fail
  go_region
  obtain ⟨w1, hw1⟩ : ∃ w1, w1 = w.drew := ⟨_, rfl⟩
  have hk1 : Ch (fun _ => False) w w1 := by rw [hw1]; exact (Ch.refl _ w).drew
  rw [← hw1]
  have f0 := hk1.cell e0 (fun f => f)
  have f1 := hk1.cell l0 (fun f => f)
  have f2 := hk1.cell l1 (fun f => f)
  have f3 := hk1.cell r0 (fun f => f)
  have f4 := hk1.cell r1 (fun f => f)
  clear e0 e1 e2 e3 l0 l1 r0 r1 hw1
  go_wp2_with fail
  have hS : ∀ W, Ch (fun _ => False) w1 W → W.cell? ⟨nb, 0, none⟩ = some (.slice (some ⟨gp, op, none⟩) pl Cp) ∧ W.cell? ⟨l, 0, none⟩ = some (.slice A1 N1 C1) ∧ W.cell? ⟨l, 1, none⟩ = some (.slice A2 N2 C2) ∧ W.cell? ⟨r, 0, none⟩ = some (.slice A3 N3 C3) ∧ W.cell? ⟨r, 1, none⟩ = some (.slice A4 N4 C4) := fun W k => ⟨k.cell f0 (fun f => f), k.cell f1 (fun f => f), k.cell f2 (fun f => f), k.cell f3 (fun f => f), k.cell f4 (fun f => f)⟩
  have HS := Lib.hid hS
  clear hS
  go_region_held3 (fun w' => w'.cell? ⟨nb, 0, none⟩ = some (.slice (some ⟨gp, op, none⟩) pl Cp) ∧ w'.cell? ⟨l, 0, none⟩ = some (.slice A1 N1 C1) ∧ w'.cell? ⟨l, 1, none⟩ = some (.slice A2 N2 C2) ∧ w'.cell? ⟨r, 0, none⟩ = some (.slice A3 N3 C3) ∧ w'.cell? ⟨r, 1, none⟩ = some (.slice A4 N4 C4)) (first | go_keep | exact ka | exact kb)
    (first
      | (go_at_call 74; refine (HC3.out _ _ (by first | exact hk1.trans ((Ch.refl _ _).alloc _ _).drew | exact hk1.trans (((Ch.refl _ _).alloc _ _).alloc _ _).drew) (by first | exact heap_alloc_new _ _ | exact alloc2_old _ _ _ | exact alloc2_new _ _ _)).mono ?_; rintro e w2 ⟨A5, C5, rfl, hp5, hk5⟩
         have hkA : Ch (fun _ => False) w1 w2 := (by first | exact ((Ch.refl _ _).alloc _ _).drew.trans hk5 | exact (((Ch.refl _ _).alloc _ _).alloc _ _).drew.trans hk5)
         have ka := HS.out w2 hkA)
      | (go_at_call 75; refine (HC2.out _ _ (by first | exact hk1.trans hkA | exact hk1.trans (hkA.trans ((Ch.refl _ _).alloc _ _))) (by first | exact heap_alloc_new _ _ | exact (hk5.block _ (by first | (simp; omega) | simp) (fun f => f)).trans (alloc2_old _ _ _) | exact (hk5.block _ (by first | (simp; omega) | simp) (fun f => f)).trans (alloc2_new _ _ _))).mono ?_; rintro e w3 ⟨A6, C6, rfl, hp6, hk6⟩
         have hkB : Ch (fun _ => False) w2 w3 := (by first | exact hk6 | exact ((Ch.refl _ _).alloc _ _).trans hk6)
         have kb := HS.out w3 (hkA.trans hkB)))
  all_goals (
    have ha4 := (Ch.refl (fun _ => False) w3).alloc #[.slice A5 P C5, .slice A6 D C6] 89
    have hk14 := ((hk1.trans hkA).trans hkB).trans ha4
    have hone : OwnN w (w3.alloc (.cells #[.slice A5 P C5, .slice A6 D C6] 89)) w3.heap.size (.slice A5 P C5) (.slice A6 D C6) (ql ++ p :: qr) (dl ++ dr) := ⟨Nat.le_trans (hk1.trans hkA).size hkB.size, heap_alloc_new w3 _, (hp5.gr hkB).gr ha4, hp6.gr ha4⟩
    obtain ⟨w4, hw4⟩ : ∃ w4, w4 = w3.alloc (.cells #[.slice A5 P C5, .slice A6 D C6] 89) := ⟨_, rfl⟩
    obtain ⟨ob, hob⟩ : ∃ ob, ob = w3.heap.size := ⟨_, rfl⟩
    rw [← hw4, ← hob] at hone
    rw [← hw4] at hk14
    have HONE := Lib.hid hone
    have HK4 := Lib.hid hk14
    have hO4 := HO.out.gr hk14
    have HO4 := Lib.hid hO4
    have g0 : w4.cell? ⟨nb, 0, none⟩ = some (.slice (some ⟨gp, op, none⟩) pl Cp) := by rw [blk_cell hO4.blk]; rfl
    rw [← hw4, ← hob]
    clear ka kb hp5 hk5 hp6 hk6 hkA hkB ha4 hk14 hone hw4 hob hO4 f0 f1 f2 f3 f4
    have hdel := delete_any w0 w4 _ a b p HO4.out.pr (by omega)
    rw [← HI.out.1] at hdel
    have HDEL := Lib.hid hdel
    obtain ⟨l5, hl5⟩ : ∃ l5, l5 = (a ++ b).length := ⟨_, rfl⟩
    obtain ⟨l8, hl8⟩ : ∃ l8, l8 = (cA ++ ob :: cB).length := ⟨_, rfl⟩
    have HL5 := Lib.hid hl5
    have HL8 := Lib.hid hl8
    clear hdel hl5 hl8
    go_wp2_with fail
    refine HDEL.out.mono ?_
    rintro e w5 ⟨v5, rfl, ho5, hk5, hb5⟩
    obtain ⟨A5, C5, rfl⟩ := ho5.lenL l5 HL5.out
    obtain ⟨hown6, hch6, s3, s4⟩ := HO4.out.newP ho5 hk5
    have hown6' := hown6
    obtain ⟨w6, hw6⟩ : ∃ w6, w6 = w5.setCell ⟨nb, 0, none⟩ (.slice A5 l5 C5) := ⟨_, rfl⟩
    have t1 : (w5.setCell ⟨nb, 0, none⟩ (.slice A5 l5 C5)).cell? ⟨nb, 1, none⟩ = some (.slice (some ⟨gc, oc, none⟩) t Cc) := by rw [blk_cell hown6.blk]; rfl
    rw [← hw6] at hown6 hch6
    have HOW6 := Lib.hid hown6
    have HCH6 := Lib.hid hch6
    have HB5 := Lib.hid hb5
    clear hown6 hch6 hb5 ho5 hk5 hown6' g0
    go_wp2_with fail
    have hsz : w5.heap.size = w6.heap.size := by rw [hw6]; simp [World.setCell]
    rw [← hw6, hsz]
    clear hw6 hsz t1
    have ha7 := (Ch.refl (fun _ => False) w6).alloc #[.pointer (some ⟨ob, 0, none⟩)] 36
    have hO7 := HOW6.out.gr ha7
    have hrep : Calls Try.prog 70 #[.slice (some ⟨gc, oc, none⟩) t Cc, .int .i64 (i : Int), .int .i64 ((i : Int) + 2), .slice (some ⟨w6.heap.size, 0, none⟩) 1 1] (w6.alloc (.cells #[.pointer (some ⟨ob, 0, none⟩)] 36)) (InsP kdNd w0 (w6.alloc (.cells #[.pointer (some ⟨ob, 0, none⟩)] 36)) (.slice (some ⟨gc, oc, none⟩) t Cc) (cA ++ ob :: cB)) := by
      have q := repl1_any w0 (w6.alloc (.cells #[.pointer (some ⟨ob, 0, none⟩)] 36)) _ cA cB l r ob w6.heap.size hO7.nd (heap_alloc_new w6 _) (fun e => by have := (HOW6.out.at (Or.inr (Or.inr e))).2; omega) (by omega)
      rw [← hl, ← HI.out.1] at q
      exact q
    refine hrep.mono ?_
    rintro e w8 ⟨v8, rfl, ho8, hk8, hb8⟩
    obtain ⟨A8, C8, rfl⟩ := ho8.lenL l8 HL8.out
    obtain ⟨hown9, hch9, s5, s6⟩ := hO7.newC ho8 hk8
    have hJ := join_st hw0 HO.out HONE.out (by simp; omega) (by
      rcases hd with ⟨q1, q2⟩ | ⟨q1, q2⟩
      · rw [q1, q2]; simp
      · rw [List.length_append]; omega) HK4.out HCH6.out HB5.out ha7 hch9 hown9 hb8
    have HJ := Lib.hid hJ
    obtain ⟨_, Aq, Cq, Ad, Cd, hbq, _, _⟩ := hJ.nd
    have u1 : (w8.setCell ⟨nb, 1, none⟩ (.slice A8 l8 C8)).cell? ⟨ob, 0, none⟩ = some (.slice Aq P Cq) := by rw [blk_cell hbq, HPD.out.1]; rfl
    clear hown9 hch9 ho8 hk8 hb8 ha7 hO7 hrep hJ hbq HK4 HCH6 HB5 HONE HOW6 HO4 HDEL s3 s4
    by_cases hP7 : P ≤ 7
    · have P1 : ¬ (7 : Int) < (P : Int) := by omega
      have P2 : (P : Int) ≤ 7 := by omega
      have HFIN := Lib.hid (HJ.out.done (by have := HPD.out.1; rw [List.length_append, List.length_cons] at this; omega))
      clear hP7
      go_wp2_with fail
      go_end0
      exact HFIN.out
    · have P1 : (7 : Int) < (P : Int) := by omega
      have P2 : ¬ (P : Int) ≤ 7 := by omega
      have hPl : P = ql.length + qr.length + 1 := by have := HPD.out.1; rw [List.length_append, List.length_cons] at this; omega
      obtain ⟨q1, x, q2, d1, d2, m1, m2, m3, m4⟩ := mid_split (ql ++ p :: qr) (dl ++ dr) (by simp; omega) (by
        rcases hd with ⟨q1, q2⟩ | ⟨q1, q2⟩
        · exact Or.inl (by rw [q1, q2]; rfl)
        · exact Or.inr (by rw [List.length_append, List.length_append, List.length_cons]; omega))
      have m5 : q1.length + q2.length + 1 = ql.length + qr.length + 1 := by
        have := congrArg List.length m1
        simp only [List.length_append, List.length_cons] at this
        omega
      rw [List.length_append, List.length_cons] at m3
      have hsp := split_any (F := fun i => w.heap.size ≤ i ∧ ¬ OwnS nb (.slice A5 l5 C5) (.slice A8 l8 C8) i) (a := a) (b := b) (cA := cA) (cB := cB) (c := ob) (q1 := q1) (q2 := q2) (x := x) (d1 := d1) (d2 := d2) HJ.out.own (by have := HJ.out.nd; rw [m1, m2] at this; exact this) (fun i hi => hi.2) hl (by omega) hcb (by omega) (by omega) (by omega) (Nat.le_trans HJ.out.lo HJ.out.ch.size) m4
      rw [← HI.out.1] at hsp
      have HSP := Lib.hid hsp
      have HM := Lib.hid (And.intro m1 (And.intro m2 (And.intro (show q1.length = (ql.length + qr.length + 1) / 2 by rw [m3]; congr 1) (And.intro m4 (show 7 < ql.length + qr.length + 1 by omega)))))
      clear hsp m1 m2 m3 m4 m5 hP7 hPl
      go_wp2_with fail
      refine HSP.out.mono ?_
      rintro e w10 hq
      have hfin := HJ.out.cut HM.out.2.2.2.2 HM.out.1 HM.out.2.1 HM.out.2.2.1 HM.out.2.2.2.1 hq
      obtain ⟨_, _, _, _, rfl, _⟩ := hq
      have HFIN := Lib.hid hfin
      clear hfin
      go_wp2_with fail
      go_end0
      exact HFIN.out)
#print axioms join_any
end Go.Proofs.Ytkpahhioiefcbaa
namespace Go.Proofs.Ytkpahhioiefcbaa
open Go.RowKit
set_option linter.unusedVariables false
set_option maxRecDepth 100000
set_option linter.unusedSimpArgs false

theorem flat_split : ∀ {q1 : List Kv} {x : Kv} {q2 : List Kv} {A B : List (List Kv)}, A.length = q1.length + 1 → flat (q1 ++ x :: q2) (A ++ B) = flat q1 A ++ x :: flat q2 B
  | [], x, q2, [l], B, _ => rfl
  | y :: q1, x, q2, l :: A, B, h => by
    have h' : A.length = q1.length + 1 := by simpa using h
    show l ++ y :: flat (q1 ++ x :: q2) (A ++ B) = (l ++ y :: flat q1 A) ++ x :: flat q2 B
    rw [flat_split h', List.append_assoc, List.cons_append]
  | [], _, _, [], _, h => by simp at h
  | [], _, _, _ :: _ :: _, _, h => by simp at h
  | _ :: _, _, _, [], _, h => by simp at h
theorem All2.parts {α β : Type} {R : α → β → Prop} : ∀ {l1 l2 : List α} {m : List β}, All2 R (l1 ++ l2) m → ∃ m1 m2, m = m1 ++ m2 ∧ All2 R l1 m1 ∧ All2 R l2 m2
  | [], l2, m, h => ⟨[], m, rfl, .nil, h⟩
  | a :: l1, l2, _, .cons (b := b) (m := m) r h => by
    obtain ⟨m1, m2, rfl, h1, h2⟩ := h.parts
    exact ⟨b :: m1, m2, rfl, .cons r h1, h2⟩
section
variable {P : Option Nat → Nat → List Kv → Prop} {h : Nat}
theorem kids_len {ps : List Kv} {cs : List Nat} {L : List Kv} (k : KidsP P h ps cs L) : (h = 0 ∧ cs = []) ∨ (0 < h ∧ cs.length = ps.length + 1) := by
  rcases k with ⟨h0, h1, _⟩ | ⟨h0, Ls, h1, _, h3⟩
  · exact Or.inl ⟨h0, h1⟩
  · exact Or.inr ⟨h0, h3.len.trans h1⟩
theorem kids_split {q1 q2 : List Kv} {x : Kv} {d1 d2 : List Nat} {L : List Kv} (k : KidsP P h (q1 ++ x :: q2) (d1 ++ d2) L) (hd : (d1 = [] ∧ d2 = []) ∨ (d1.length = q1.length + 1 ∧ d2.length = q2.length + 1)) : ∃ L1 L2, L = L1 ++ x :: L2 ∧ KidsP P h q1 d1 L1 ∧ KidsP P h q2 d2 L2 := by
  rcases k with ⟨h0, h1, h2⟩ | ⟨h0, Ls, h1, h2, h3⟩
  · have e := List.append_eq_nil_iff.1 h1
    exact ⟨q1, q2, h2, Or.inl ⟨h0, e.1, rfl⟩, Or.inl ⟨h0, e.2, rfl⟩⟩
  · have hl := h3.len
    rcases hd with ⟨rfl, rfl⟩ | ⟨e1, e2⟩
    · rw [h1] at hl; simp at hl
    · obtain ⟨m1, m2, rfl, k1, k2⟩ := h3.parts
      have g1 := k1.len
      have g2 := k2.len
      exact ⟨flat q1 m1, flat q2 m2, by rw [h2, flat_split (by omega)], Or.inr ⟨h0, m1, by omega, rfl, k1⟩, Or.inr ⟨h0, m2, by omega, rfl, k2⟩⟩
theorem kids_join {ql qr : List Kv} {p : Kv} {dl dr : List Nat} {Ll Lr : List Kv} (k1 : KidsP P h ql dl Ll) (k2 : KidsP P h qr dr Lr) : KidsP P h (ql ++ p :: qr) (dl ++ dr) (Ll ++ p :: Lr) := by
  rcases k1 with ⟨h0, rfl, rfl⟩ | ⟨h0, L1, h1, rfl, h3⟩
  · rcases k2 with ⟨_, rfl, rfl⟩ | ⟨h0', _⟩
    · exact Or.inl ⟨h0, rfl, rfl⟩
    · omega
  · rcases k2 with ⟨h0', _⟩ | ⟨_, L2, g1, rfl, g3⟩
    · omega
    · exact Or.inr ⟨h0, L1 ++ L2, by simp only [List.length_append, List.length_cons]; omega, (flat_split h1).symm, h3.app g3⟩
theorem kids_both {ql qr : List Kv} {dl dr : List Nat} {Ll Lr : List Kv} (k1 : KidsP P h ql dl Ll) (k2 : KidsP P h qr dr Lr) : (dl = [] ∧ dr = []) ∨ (dl.length = ql.length + 1 ∧ dr.length = qr.length + 1) := by
  rcases kids_len k1 with ⟨h0, e1⟩ | ⟨h0, e1⟩
  · rcases kids_len k2 with ⟨_, e2⟩ | ⟨h0', _⟩
    · exact Or.inl ⟨e1, e2⟩
    · omega
  · rcases kids_len k2 with ⟨h0', _⟩ | ⟨_, e2⟩
    · omega
    · exact Or.inr ⟨e1, e2⟩
end
/-- A child: a tree of 3 tto 7 pairs in its root. -/
def Kid (F : Nat → Prop) (h : Nat) (w : World) (c : Nat) (l : List Kv) : Prop := ∃ m, 3 ≤ m ∧ m ≤ 7 ∧ TrIs F h w (some c) m l
theorem Kid.ch {F G S : Nat → Prop} {h : Nat} {w w' : World} {c : Nat} {l : List Kv} (k : Kid F h w c l) (hc : Ch S w w') (hS : ∀ i, F i → ¬ S i) (hG : ∀ i, F i → G i) : Kid G h w' c l := by
  obtain ⟨m, h1, h2, h3⟩ := k
  exact ⟨m, h1, h2, (h3.ch hc hS).mono fun i hi _ => hG i hi⟩
/-- A child is written over. -/
theorem own_put {w0 w : World} {nb : Nat} {vp vc : Value} {ps : List Kv} {A B : List Nat} {x : Nat} (h : OwnN w0 w nb vp vc ps (A ++ x :: B)) (y : Nat) : ∃ g C, vc = .slice (some ⟨g, 0, none⟩) (A.length + B.length + 1) C ∧ OwnN w0 (w.setCell ⟨g, A.length, none⟩ (.pointer (some ⟨y, 0, none⟩))) nb vp vc ps (A ++ y :: B) ∧
    Ch (OwnS nb vp vc) w (w.setCell ⟨g, A.length, none⟩ (.pointer (some ⟨y, 0, none⟩))) ∧ w.cell? ⟨g, A.length, none⟩ = some (.pointer (some ⟨x, 0, none⟩)) ∧ w.frozen? ⟨g, A.length, none⟩ = false := by
  have hl : (A ++ x :: B).length = A.length + B.length + 1 := by simp only [List.length_append, List.length_cons]; omega
  have hl2 : (A ++ y :: B).length = A.length + B.length + 1 := by simp only [List.length_append, List.length_cons]; omega
  rcases h.nd.parts kdNd_ok with ⟨_, e⟩ | ⟨g, cap, R, rfl, hg⟩
  · simp at e
  have hA := flC_len kdNd_ok A
  rw [show kdNd.k = 1 from rfl, Nat.mul_one] at hA
  have ec : ∀ z, flC kdNd (A ++ z :: B) ++ R = flC kdNd A ++ (.pointer (some ⟨z, 0, none⟩) :: (flC kdNd B ++ R)) := fun z => by rw [flC_app, List.append_assoc]; rfl
  have k := (Ch.refl (fun i => i = g) w).setCell (p := ⟨g, A.length, none⟩) (Or.inl rfl) (.pointer (some ⟨y, 0, none⟩))
  have hown : (Value.slice (some ⟨g, 0, none⟩) (A ++ x :: B).length cap).ownBlock = some g := rfl
  have hblk : (w.setCell ⟨g, A.length, none⟩ (.pointer (some ⟨y, 0, none⟩))).heap[g]? = some (.cells (flC kdNd (A ++ y :: B) ++ R).toArray kdNd.T (0, 0)) := by
    rw [blk_set hg.blk, ec x, ec y]
    congr 2
    rw [List.setIfInBounds_toArray]
    congr 1
    rw [← hA, List.set_append_right _ _ (Nat.le_refl _)]
    simp
  have hnd : FlO kdNd w0 (w.setCell ⟨g, A.length, none⟩ (.pointer (some ⟨y, 0, none⟩))) (.slice (some ⟨g, 0, none⟩) (A ++ x :: B).length cap) (A ++ y :: B) := by
    have q := FlG.own kdNd_ok (⟨hg.lo, hblk, by rw [hl2, ← hl]; exact hg.le, hg.max, by
      have := hg.len
      rw [ec] at this ⊢
      simp only [List.length_append, List.length_cons] at this ⊢
      omega⟩ : FlG kdNd w0 _ g cap (A ++ y :: B) R)
    rw [hl2, ← hl] at q
    exact q
  refine ⟨g, cap, by rw [hl], ⟨h.lo, (k.block nb (blk_lt h.blk) fun e => (h.apart2 (show _ = some g from rfl)).1 e.symm).trans h.blk, h.pr.ch k fun i e e2 => (h.apart2 (show _ = some g from rfl)).2 (e2 ▸ e), hnd⟩, (Ch.refl _ w).setCell (p := ⟨g, A.length, none⟩) (Or.inl (Or.inr (Or.inr rfl))) _, ?_, blk_frozen hg.blk⟩
  rw [blk_cell hg.blk, List.getElem?_toArray, ec x, ← hA, List.getElem?_append_right (Nat.le_refl _)]
  simp
#print axioms own_put
end Go.Proofs.Ytkpahhioiefcbaa
