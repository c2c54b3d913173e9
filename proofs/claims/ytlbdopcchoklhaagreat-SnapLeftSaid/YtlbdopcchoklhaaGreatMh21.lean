/-
  (*disk.Disk).aim, walked. (*disk.Disk).Read, walked.
-/
import Derived.Test.YtlbdopcchoklhaaGreatMh20
import Derived.Test.YtlbdopcchoklhaaGreatMh8
namespace Go.Proofs.YtlbdopcchoklhaaGreat
open Go.RowKit
set_option linter.unusedVariables false
set_option maxRecDepth 100000

/-! ### a cell of a sector turns -/
section
variable {base : Nat} {w w' : World} {p : Ph} {d : Dev}
theorem sec_set (h : DevIs base w p d) {a j : Nat} (ha : a < d.n) (hj : j < 259) (v : Value) (d' : Dev) (m' : Nat → Value) (e1 : secV d' m' a j = v) (e2 : ∀ b c, c < 259 → ¬ (b = a ∧ c = j) → secV d' m' b c = secV d p.m b c) :
    SecsIs (w.setCell ⟨p.G, a * 259 + j, none⟩ v) p.G 129 (d.n * 259) (fun i => secV d' m' (i / 259) (i % 259)) := by
  refine (h.sec.set (a * 259 + j) v).congr fun i hi => ?_
  have hdm := Nat.div_add_mod i 259
  have hlt := Nat.mod_lt i (show 0 < 259 by omega)
  by_cases q : i = a * 259 + j
  · rw [if_pos q, show i / 259 = a by omega, show i % 259 = j by omega, e1]
  · rw [if_neg q, e2 _ _ hlt (fun k => q (by omega))]
theorem chG (w : World) (p : Ph) (i : Nat) (v : Value) : Ch (fun j => j = p.G) w (w.setCell ⟨p.G, i, none⟩ v) := Ch.setCell (S := fun j => j = p.G) (Ch.refl _ w) (p := ⟨p.G, i, none⟩) (Or.inl rfl) v
theorem chGF (h : Ch (fun j => j = p.G) w w') : Ch (Foot p d) w w' := h.mono fun i _ hi => Or.inr (Or.inl hi)
theorem DevIs.setDrops (h : DevIs base w p d) {a : Nat} (ha : a < d.n) (x : Nat) : DevIs base (w.setCell ⟨p.G, a * 259 + 257, none⟩ (.int .i64 (x : Int))) p { d with drops := up d.drops a x } := by
  have hk := chG w p (a * 259 + 257) (.int .i64 (x : Int))
  refine h.turn (d' := { d with drops := up d.drops a x }) (hk.mono fun _ _ e => Or.inr e) ((hk.block _ (blk_lt h.blk) h.BG).trans h.blk) (sec_set h ha (by omega) _ _ _ ?_ ?_) rfl rfl rfl h.byt h.lf
  · unfold secV
    rw [if_neg (by omega), if_neg (by omega), if_pos rfl]
    show Value.int .i64 ((up d.drops a x a : Nat) : Int) = _
    rw [up_same]
  · intro b c hc hn
    unfold secV
    by_cases q : c < 256
    · rw [if_pos q, if_pos q]
    · by_cases q2 : c = 256
      · rw [if_neg q, if_neg q, if_pos q2, if_pos q2]
      · by_cases q3 : c = 257
        · rw [if_neg q, if_neg q, if_neg q2, if_neg q2, if_pos q3, if_pos q3]
          show Value.int .i64 ((up d.drops a x b : Nat) : Int) = _
          rw [up_other _ _ (fun e => hn ⟨e, q3⟩)]
        · rw [if_neg q, if_neg q, if_neg q2, if_neg q2, if_neg q3, if_neg q3]
theorem DevIs.setLost (h : DevIs base w p d) {a : Nat} (ha : a < d.n) (x : Bool) : DevIs base (w.setCell ⟨p.G, a * 259 + 256, none⟩ (.bool x)) p { d with lost := up d.lost a x } := by
  have hk := chG w p (a * 259 + 256) (.bool x)
  refine h.turn (d' := { d with lost := up d.lost a x }) (hk.mono fun _ _ e => Or.inr e) ((hk.block _ (blk_lt h.blk) h.BG).trans h.blk) (sec_set h ha (by omega) _ _ _ ?_ ?_) rfl rfl rfl h.byt h.lf
  · unfold secV
    rw [if_neg (by omega), if_pos rfl]
    show Value.bool (up d.lost a x a) = _
    rw [up_same]
  · intro b c hc hn
    unfold secV
    by_cases q : c < 256
    · rw [if_pos q, if_pos q]
    · by_cases q2 : c = 256
      · rw [if_neg q, if_neg q, if_pos q2, if_pos q2]
        show Value.bool (up d.lost a x b) = _
        rw [up_other _ _ (fun e => hn ⟨e, q2⟩)]
      · rw [if_neg q, if_neg q, if_neg q2, if_neg q2]
/-- What is misled of one sector turns. -/
theorem DevIs.turnM (h : DevIs base w p d) {a : Nat} (ha : a < d.n) {v : Value} {l : List Nat} (k : Ch (fun i => i = p.G ∨ (p.m a).ownBlock = some i) w w')
    (hs : SecsIs w' p.G 129 (d.n * 259) (fun i => secV d (up p.m a v) (i / 259) (i % 259))) (hv : MissIs w' v l) (ho : ∀ i, v.ownBlock = some i → (p.m a).ownBlock = some i ∨ w.heap.size ≤ i) (hl : ∀ x ∈ l, x < d.n) :
    DevIs base w' { p with m := up p.m a v } { d with miss := up d.miss a l } := by
  have hb : base ≤ w.heap.size := Nat.le_trans h.lowB (Nat.le_of_lt (blk_lt h.blk))
  have far : ∀ b, b < d.n → b ≠ a → ∀ i, (p.m b).ownBlock = some i → ¬ (p.m a).ownBlock = some i := fun b hbn hne i hi hi2 => hne (h.inj b a hbn ha i hi hi2)
  have old : ∀ b, b < d.n → ∀ i, (p.m b).ownBlock = some i → i < w.heap.size := fun b hbn i hi => (h.foot (Or.inr (Or.inr (Or.inr ⟨b, hbn, hi⟩)))).2
  refine ⟨(k.block _ (blk_lt h.blk) (fun e => e.elim h.BG (fun e => h.BM ha e))).trans h.blk, hs, own_of h.wts (fun i hi => k.block i (h.foot (Or.inr (Or.inr (Or.inl hi)))).2 (fun e => e.elim (fun q => h.GV (q ▸ hi)) (h.VM ha hi))), ?_, ?_, h.lowB, h.lowG, ?_, h.byt, h.wok, ?_, h.nn, h.lf⟩
  · intro b hbn
    show MissIs w' (up p.m a v b) (up d.miss a l b)
    by_cases q : b = a
    · rw [q, up_same, up_same]; exact hv
    · rw [up_other _ _ q, up_other _ _ q]
      exact (h.ms b hbn).of (fun i hi => k.block i (old b hbn i hi) (fun e => e.elim (fun e => h.GM hbn (e ▸ hi)) (far b hbn q i hi)))
  · intro b c hbn hcn i hi hi2
    change (up p.m a v b).ownBlock = some i at hi
    change (up p.m a v c).ownBlock = some i at hi2
    by_cases q : b = a
    · by_cases q2 : c = a
      · rw [q, q2]
      · rw [q, up_same] at hi
        rw [up_other _ _ q2] at hi2
        rcases ho i hi with e | e
        · exact (far c hcn q2 i hi2 e).elim
        · have := old c hcn i hi2; omega
    · by_cases q2 : c = a
      · rw [q2, up_same] at hi2
        rw [up_other _ _ q] at hi
        rcases ho i hi2 with e | e
        · exact (far b hbn q i hi e).elim
        · have := old b hbn i hi; omega
      · rw [up_other _ _ q] at hi
        rw [up_other _ _ q2] at hi2
        exact h.inj b c hbn hcn i hi hi2
  · intro b hbn i hi
    change (up p.m a v b).ownBlock = some i at hi
    by_cases q : b = a
    · rw [q, up_same] at hi
      rcases ho i hi with e | e
      · exact h.lowM a ha i e
      · omega
    · rw [up_other _ _ q] at hi
      exact h.lowM b hbn i hi
  · intro b hbn x hx
    change x ∈ up d.miss a l b at hx
    by_cases q : b = a
    · rw [q, up_same] at hx; exact hl x hx
    · rw [up_other _ _ q] at hx; exact h.mok b hbn x hx
theorem foot_turnM {a : Nat} (ha : a < d.n) {v : Value} {l : List Nat} (n : Nat) (ho : ∀ i, v.ownBlock = some i → (p.m a).ownBlock = some i ∨ n ≤ i) : ∀ i, Foot { p with m := up p.m a v } { d with miss := up d.miss a l } i → Foot p d i ∨ n ≤ i := by
  intro i hi
  rcases hi with hi | hi | hi | ⟨b, hbn, hi⟩
  · exact Or.inl (Or.inl hi)
  · exact Or.inl (Or.inr (Or.inl hi))
  · exact Or.inl (Or.inr (Or.inr (Or.inl hi)))
  · change (up p.m a v b).ownBlock = some i at hi
    by_cases q : b = a
    · rw [q, up_same] at hi
      rcases ho i hi with e | e
      · exact Or.inl (Or.inr (Or.inr (Or.inr ⟨a, ha, e⟩)))
      · exact Or.inr e
    · rw [up_other _ _ q] at hi
      exact Or.inl (Or.inr (Or.inr (Or.inr ⟨b, hbn, hi⟩)))
theorem sec_setM (h : DevIs base w p d) {a : Nat} (ha : a < d.n) (v : Value) : SecsIs (w.setCell ⟨p.G, a * 259 + 258, none⟩ v) p.G 129 (d.n * 259) (fun i => secV d (up p.m a v) (i / 259) (i % 259)) := by
  refine sec_set h ha (by omega) v d (up p.m a v) ?_ ?_
  · unfold secV
    rw [if_neg (by omega), if_neg (by omega), if_neg (by omega), up_same]
  · intro b c hc hn
    unfold secV
    by_cases q : c < 256
    · rw [if_pos q, if_pos q]
    · by_cases q2 : c = 256
      · rw [if_neg q, if_neg q, if_pos q2, if_pos q2]
      · by_cases q3 : c = 257
        · rw [if_neg q, if_neg q, if_neg q2, if_neg q2, if_pos q3, if_pos q3]
        · rw [if_neg q, if_neg q, if_neg q2, if_neg q2, if_neg q3, if_neg q3]
          by_cases q4 : b = a
          · exact (hn ⟨q4, by omega⟩).elim
          · rw [up_other _ _ q4]
end
/-! ### aim -/
def aimD (d : Dev) (a : Nat) : Dev := if 0 < d.drops a then { d with drops := up d.drops a (d.drops a - 1) } else match d.miss a with
  | [] => d
  | t :: r => { d with miss := up d.miss a r }
def aimT (d : Dev) (a : Nat) : Nat := if 0 < d.drops a then 0 else match d.miss a with
  | [] => a
  | t :: r => t
def aimC (d : Dev) (a : Nat) : Bool := decide (¬ 0 < d.drops a)
theorem aimT_lt {base : Nat} {w : World} {p : Ph} {d : Dev} (h : DevIs base w p d) {a : Nat} (ha : a < d.n) : aimT d a < d.n := by
  unfold aimT
  split
  · omega
  · split
    · exact ha
    · rename_i t r e
      exact h.mok a ha t (by rw [e]; exact List.mem_cons_self)
set_option maxHeartbeats 800000 in
set_option maxRecDepth 100000 in
theorem aim_any (base : Nat) (p : Ph) (d : Dev) (a : Nat) (w : World) (h : DevIs base w p d) (ha : a < d.n) (hdr : d.drops a ≤ 1152921504606846976) :
    Calls Tryz.prog 85 #[.pointer (some ⟨p.B, 0, none⟩), .int .i64 (a : Int)] w (DPost base p d (aimD d a) (.tuple #[.int .i64 (aimT d a : Int), .bool (aimC d a)]) w) := by
  have c0 : w.cell? ⟨p.B, 0, none⟩ = some (.slice (some ⟨p.G, 0, none⟩) d.n p.c) := h.cellB 0
  have cd : w.cell? ⟨p.G, a * 259 + 257, none⟩ = some (.int .i64 (d.drops a : Int)) := h.cellG ha (by omega : 257 < 259)
  have cm : w.cell? ⟨p.G, a * 259 + 258, none⟩ = some (p.m a) := h.cellG ha (by omega : 258 < 259)
  have fd := h.frG (a * 259 + 257)
  have fm := h.frG (a * 259 + 258)
  have i1 : (0 : Int) ≤ (a : Int) := Int.natCast_nonneg _
  have i2 : (a : Int) < (d.n : Int) := by omega
  have HH := Lib.hid h
  have HA := Lib.hid ha
  by_cases hq : 0 < d.drops a
  · have HS := Lib.hid (show aimD d a = { d with drops := up d.drops a (d.drops a - 1) } ∧ aimT d a = 0 ∧ aimC d a = false by
      unfold aimD aimT aimC
      rw [if_pos hq, if_pos hq]
      exact ⟨rfl, rfl, decide_eq_false (fun n => n hq)⟩)
    have ex : ((d.drops a - 1 : Nat) : Int) = (d.drops a : Int) - 1 := by omega
    have h1 := h.setDrops ha (d.drops a - 1)
    have hc1 := chGF (p := p) (d := d) (chG w p (a * 259 + 257) (.int .i64 ((d.drops a - 1 : Nat) : Int)))
    rw [ex] at h1 hc1
    have HD := Lib.hid h1
    have HC := Lib.hid hc1
    have t1 : (0 : Int) < (d.drops a : Int) := by omega
    rw [HS.out.1, HS.out.2.1, HS.out.2.2]
    obtain ⟨B, G, V, m, cG⟩ := p
    clear h ha hq h1 hc1 ex cm fm
    go_enter Tryz.func85, Tryz.ntmps85
    go_wp2
    go_ret2
    exact DPost.turned HD.out rfl HC.out
  · have t1 : (d.drops a : Int) = 0 := by omega
    cases hm : d.miss a with
    | nil =>
      have HS := Lib.hid (show aimD d a = d ∧ aimT d a = a ∧ aimC d a = true by
        unfold aimD aimT aimC
        rw [if_neg hq, if_neg hq, hm]
        exact ⟨rfl, rfl, decide_eq_true hq⟩)
      have hms := h.ms a ha
      rw [hm] at hms
      obtain ⟨A, C, hv⟩ : ∃ A C, p.m a = .slice A 0 C := by
        rcases hms with ⟨hv, _⟩ | ⟨b, o, cap, c, hv, _⟩
        · exact ⟨_, _, hv⟩
        · exact ⟨_, _, hv⟩
      rw [hv] at cm
      rw [t1] at cd
      rw [HS.out.1, HS.out.2.1, HS.out.2.2]
      obtain ⟨B, G, V, m, cG⟩ := p
      clear h ha hq hms hv hm hdr
      go_enter Tryz.func85, Tryz.ntmps85
      go_wp2
      go_ret2
      exact DPost.turned HH.out rfl (Ch.refl _ _)
    | cons t r =>
      have HS := Lib.hid (show aimD d a = { d with miss := up d.miss a r } ∧ aimT d a = t ∧ aimC d a = true by
        unfold aimD aimT aimC
        rw [if_neg hq, if_neg hq, hm]
        exact ⟨rfl, rfl, decide_eq_true hq⟩)
      have hms := h.ms a ha
      rw [hm] at hms
      obtain ⟨b, o, cap, c, hv, hcap, hb, hsz, hmx, hall⟩ : ∃ b o cap c, p.m a = .slice (some ⟨b, o, none⟩) (r.length + 1) cap ∧ r.length + 1 ≤ cap ∧ w.heap[b]? = some (.cells c 3 (0, 0)) ∧ o + cap ≤ c.size ∧ cap ≤ 9223372036854775807 ∧ ∀ i x : Nat, (t :: r)[i]? = some x → c[o + i]? = some (.int .i64 (x : Int)) := by
        rcases hms with ⟨_, hv⟩ | ⟨b, o, cap, c, hv, h1, h2, h3, h4, h5⟩
        · cases hv
        · exact ⟨b, o, cap, c, hv, h1, h2, h3, h4, h5⟩
      have ct : w.cell? ⟨b, o, none⟩ = some (.int .i64 (t : Int)) := by rw [blk_cell hb]; exact hall 0 t rfl
      have hGb : p.G ≠ b := fun e => h.GM ha (by rw [hv, e]; rfl)
      have hdone : ∀ v : Value, v.ownBlock = some b → (∀ w' : World, w'.heap[b]? = some (.cells c 3 (0, 0)) → MissIs w' v r) → DPost base p d (aimD d a) (.tuple #[.int .i64 (aimT d a : Int), .bool (aimC d a)]) w (.returned (.tuple #[.int .i64 (t : Int), .bool true])) (w.setCell ⟨p.G, a * 259 + 258, none⟩ v) := fun v hvb hvm => by
        have ho : ∀ i, v.ownBlock = some i → (p.m a).ownBlock = some i ∨ w.heap.size ≤ i := fun i hi => Or.inl (by rw [hv]; rw [hvb] at hi; exact hi)
        have hk := chG w p (a * 259 + 258) v
        rw [HS.out.1, HS.out.2.1, HS.out.2.2]
        refine ⟨rfl, { p with m := up p.m a v }, rfl, h.turnM ha (hk.mono fun _ _ e => Or.inl e) (sec_setM h ha v) (hvm _ ((hk.block b (blk_lt hb) (fun e => hGb e.symm)).trans hb)) ho (fun x hx => h.mok a ha x (by rw [hm]; exact List.mem_cons_of_mem _ hx)), foot_turnM ha _ ho, chGF hk⟩
      rw [hv] at cm
      rw [t1] at cd
      have u1 : ((r.length + 1 : Nat) : Int) = (r.length : Int) + 1 := by omega
      by_cases hC : cap = 1
      · subst hC
        have hr0 : r = [] := List.eq_nil_of_length_eq_zero (by omega)
        subst hr0
        have HD := Lib.hid (hdone (.slice (some ⟨b, o, none⟩) 0 0) rfl (fun w' hw' => Or.inr ⟨b, o, 0, c, rfl, Nat.le_refl _, hw', by omega, by omega, fun i x hx => by cases hx⟩))
        obtain ⟨B, G, V, m, cG⟩ := p
        clear h ha hq hms hv hm hdr hdone hall hb hGb HS hsz hcap u1 hmx
        go_enter Tryz.func85, Tryz.ntmps85
        go_wp2
        go_ret2
        exact HD.out
      · have HD := Lib.hid (hdone (.slice (some ⟨b, o + 1, none⟩) r.length (cap - 1)) rfl (fun w' hw' => Or.inr ⟨b, o + 1, cap - 1, c, rfl, by omega, hw', by omega, by omega, fun i x hx => by
          rw [show o + 1 + i = o + (i + 1) by omega]
          exact hall (i + 1) x hx⟩))
        have t2 : (cap : Int) - 1 ≠ 0 := by omega
        have t3 : (1 : Int) ≤ (cap : Int) := by omega
        obtain ⟨n, hn⟩ : ∃ n, n = r.length := ⟨_, rfl⟩
        rw [← hn] at HD cm u1 hcap
        obtain ⟨B, G, V, m, cG⟩ := p
        clear h ha hq hms hv hm hdr hdone hall hb hGb HS hsz hn
        go_enter Tryz.func85, Tryz.ntmps85
        go_wp2
        trace_state
        go_ret2
        exact HD.out
end Go.Proofs.YtlbdopcchoklhaaGreat
namespace Go.Proofs.YtlbdopcchoklhaaGreat
open Go.RowKit
set_option linter.unusedVariables false
set_option maxRecDepth 100000

/-! ### what is read -/
/-- The last write of the first k that is one of the sector a. -/
def scan (W : List Wt) (a : Nat) : Nat → Option Wt
  | 0 => none
  | k + 1 => match W[k]? with
    | some x => if x.pl = a then some x else scan W a k
    | none => scan W a k
def lastW (W : List Wt) (a : Nat) : Option Wt := scan W a W.length
theorem scan_front (W : List Wt) (x : Wt) (a : Nat) : ∀ k, k ≤ W.length → scan (W ++ [x]) a k = scan W a k
  | 0, _ => rfl
  | k + 1, h => by
    unfold scan
    rw [List.getElem?_append_left (by omega), scan_front W x a k (by omega)]
theorem lastW_snoc (W : List Wt) (x : Wt) (a : Nat) : lastW (W ++ [x]) a = if x.pl = a then some x else lastW W a := by
  unfold lastW
  rw [List.length_append, List.length_singleton]
  conv => lhs; unfold scan
  rw [show (W ++ [x])[W.length]? = some x by simp]
  show (if x.pl = a then some x else scan (W ++ [x]) a W.length) = _
  rw [scan_front W x a W.length (Nat.le_refl _)]
theorem lastW_nil (a : Nat) : lastW [] a = none := rfl
theorem scan_mem {W : List Wt} {a : Nat} {x : Wt} : ∀ {k : Nat}, scan W a k = some x → x ∈ W ∧ x.pl = a
  | 0, h => by cases h
  | k + 1, h => by
    unfold scan at h
    cases q : W[k]? with
    | none => rw [q] at h; exact scan_mem h
    | some y =>
      rw [q] at h
      dsimp only at h
      by_cases e : y.pl = a
      · rw [if_pos e] at h
        injection h with h
        subst h
        exact ⟨List.mem_of_getElem? q, e⟩
      · rw [if_neg e] at h; exact scan_mem h
def readE (d : Dev) (a : Int) : Int := if openE d a = 0 then (if (lastW d.W a.toNat).isNone && d.lost a.toNat then 20 else 0) else openE d a
def readD (d : Dev) (a : Int) : Dev := if openE d a = 0 then { d with ops := d.ops + 1 } else d
def readL (d : Dev) (a : Int) : Nat := if readE d a = 0 then 256 else 0
def readZ (d : Dev) (a : Int) : Nat → Nat := match lastW d.W a.toNat with
  | some x => x.z
  | none => d.has a.toNat
def ReadPost (base : Nat) (p : Ph) (d : Dev) (a : Int) (w : World) (e : Ending) (w' : World) : Prop :=
  ∃ v, e = .returned (.tuple #[v, .int .i64 (readE d a)]) ∧ DevIs base w' p (readD d a) ∧ w'.ownsRow w.heap.size /-t-/5 1 v (readL d a) (bytesL (readL d a) (readZ d a)) ∧ Ch (Foot p d) w w'
theorem openE_ne {d : Dev} {a : Int} (h : ¬ openE d a = 0) : readE d a = openE d a ∧ readD d a = d ∧ readL d a = 0 := by
  have e : readE d a = openE d a := by unfold readE; rw [if_neg h]
  exact ⟨e, by unfold readD; rw [if_neg h], by unfold readL; rw [e, if_neg h]⟩
theorem openE_ok {d : Dev} {a : Int} (h : openE d a = 0) : d.dead = false ∧ ∃ k : Nat, a = (k : Int) ∧ k < d.n := by
  unfold openE at h
  cases hd : d.dead
  · rw [hd] at h
    cases hh : hasB d a
    · rw [hh] at h; simp at h
    · have := of_decide_eq_true hh
      exact ⟨rfl, a.toNat, by omega, by omega⟩
  · rw [hd] at h; simp at h
theorem DevIs.wt {base : Nat} {w : World} {p : Ph} {d : Dev} (h : DevIs base w p d) {k : Nat} {x : Wt} (hk : d.W[k]? = some x) : ∃ g cap, p.V = .slice (some ⟨g, 0, none⟩) d.W.length cap ∧ w.rangeAt g (k * 257) (wtC x) := by
  have hl : k < d.W.length := (List.getElem?_eq_some_iff.1 hk).1
  obtain ⟨g, cap, hv, _, _⟩ := World.ownsRow.form h.wts (by omega)
  refine ⟨g, cap, hv, fun j v hj => ?_⟩
  have hj2 : j < 257 := by
    have := (List.getElem?_eq_some_iff.1 hj).1
    rwa [wtC_len] at this
  have h2 := World.ownsRow.cells (h := (hv ▸ h.wts)) (g := g) rfl (k * 257 + j) v (by rw [wtsL_get hk hj2]; exact hj)
  rwa [add_pl, Nat.zero_add] at h2
theorem DevIs.vform {base : Nat} {w : World} {p : Ph} {d : Dev} (h : DevIs base w p d) : ∃ A C, p.V = .slice A d.W.length C := by
  rcases h.wts.2 with ⟨hv, h0⟩ | ⟨g, cap, cur, hv, _⟩
  · exact ⟨none, 0, by rw [hv, h0]⟩
  · exact ⟨_, _, hv⟩
theorem range_row {w : World} {g o : Nat} {z : Nat → Nat} (h : w.rangeAt g o (bytesL 256 z)) (hz : Bytes 256 z) (C : Nat) (hC : 256 ≤ C) : RowV w (.slice (some ⟨g, o, none⟩) 256 C) 256 z :=
  ⟨_, _, rfl, by omega, fun _ => ⟨g, o, rfl, fun c hc => ⟨h c _ (bytesL_get hc), hz c hc⟩⟩⟩
theorem DevIs.hasR {base : Nat} {w : World} {p : Ph} {d : Dev} (h : DevIs base w p d) {a : Nat} (ha : a < d.n) : w.rangeAt p.G (a * 259) (bytesL 256 (d.has a)) := fun j v hj => by
  have hj2 : j < 256 := by
    have := (List.getElem?_eq_some_iff.1 hj).1
    rwa [bytesL_len] at this
  rw [h.cellG ha (by omega), ← hj, bytesL_get hj2]
  unfold secV
  rw [if_pos hj2]
set_option maxHeartbeats 800000 in
set_option maxRecDepth 100000 in
theorem read_any (base : Nat) (p : Ph) (d : Dev) (a : Int) (w : World) (h : DevIs base w p d) (ho : d.ops ≤ 1152921504606846976) (hW : d.W.length ≤ 1048576) :
    Calls Tryz.prog 94 #[.pointer (some ⟨p.B, 0, none⟩), .int .i64 a] w (ReadPost base p d a w) := by
  have HO := Lib.hid (open_any base p d a w h)
  by_cases hop : openE d a = 0
  · obtain ⟨hd, k, rfl, hk⟩ := openE_ok hop
    rw [hop] at HO
    have c5 : w.cell? ⟨p.B, 5, none⟩ = some (.int .i64 (d.ops : Int)) := h.cellB 5
    have f5 := h.frB 5
    have h1 := h.setOps (d.ops + 1)
    have HC1 := Lib.hid (chBF (d := d) (chB h 5 (.int .i64 ((d.ops + 1 : Nat) : Int))))
    have HRD := Lib.hid (show readD d k = { d with ops := d.ops + 1 } by unfold readD; rw [if_pos hop])
    have eop : ((d.ops + 1 : Nat) : Int) = (d.ops : Int) + 1 := by omega
    rw [eop] at h1 HC1
    obtain ⟨w1, hw1⟩ : ∃ w1, w1 = w.setCell ⟨p.B, 5, none⟩ (.int .i64 ((d.ops : Int) + 1)) := ⟨_, rfl⟩
    rw [← hw1] at h1 HC1
    have HW1 := Lib.hid hw1.symm
    have c0 : w1.cell? ⟨p.B, 0, none⟩ = some (.slice (some ⟨p.G, 0, none⟩) d.n p.c) := h1.cellB 0
    have c1 : w1.cell? ⟨p.B, 1, none⟩ = some p.V := h1.cellB 1
    have cl : w1.cell? ⟨p.G, k * 259 + 256, none⟩ = some (.bool (d.lost k)) := h1.cellG hk (by omega : 256 < 259)
    have HSZ := Lib.hid (show w1.heap.size = w.heap.size by rw [hw1]; simp [World.setCell])
    have i1 : (0 : Int) ≤ (k : Int) := Int.natCast_nonneg _
    have i2 : (k : Int) < (d.n : Int) := by omega
    have HK := Lib.hid hk
    have H1 := Lib.hid h1
    have HH := Lib.hid h
    have HOP := Lib.hid hop
    obtain ⟨A, C, hV⟩ := h.vform
    rw [hV] at c1
    have HV := Lib.hid hV
    have hBP : w.setCell ⟨p.B, 5, none⟩ (.int .i64 ((d.ops : Int) + 1)) = w1 := hw1.symm
    obtain ⟨B, G, V, m, cG⟩ := p
    clear h h1 hw1 hV hop hk eop
    obtain ⟨L, hL⟩ : ∃ L, L = d.W.length := ⟨_, rfl⟩
    have HLN := Lib.hid hL
    rw [← hL] at c1 hW
    have hfin : ∀ (v : Value) (z : Nat → Nat) (w2 : World), readE d k = 0 → readZ d k = z → w2.ownsRow w1.heap.size /-t-/5 1 v 256 (bytesL 256 z) → Ch (fun _ => False) w1 w2 →
        ReadPost base ⟨B, G, V, m, cG⟩ d k w (.returned (.tuple #[v, .int .i64 0])) w2 := fun v z w2 e1 e2 e3 e4 => by
      have e5 : readL d k = 256 := by unfold readL; rw [if_pos e1]
      refine ⟨v, by rw [e1], by rw [HRD.out]; exact H1.out.gr e4, ?_, HC1.out.trans (e4.mono fun _ _ f => f.elim)⟩
      rw [e5, e2, ← HSZ.out]
      exact e3
    have HFIN := Lib.hid hfin
    clear hfin hL
    go_enter Tryz.func94, Tryz.ntmps94
    go_wp2_with fail
    refine HO.out.mono ?_
    rintro e w' ⟨rfl, rfl⟩
    go_wp2_with fail
    clear hBP HW1 HO ho
    go_loopw [7] (fun i wr => ∃ j : Nat, j ≤ L ∧ i = .int .i64 ((j : Int) - 1) ∧ Hid (scan d.W k j = lastW d.W k) ∧ wr = w1) (fun i _ => (intOf i + 1).toNat)
    case atStart => exact ⟨L, Nat.le_refl _, rfl, Lib.hid (by unfold lastW; rw [← HLN.out]), rfl⟩
    case round =>
      obtain ⟨j, hj, rfl, HJ, rfl⟩ := hrel
      cases j with
      | zero =>
        have HE0 := Lib.hid (show (none : Option Wt) = lastW d.W k from HJ.out)
        cases hlo : d.lost k
        · rw [hlo] at cl
          have hE : readE d k = 0 := by unfold readE; rw [if_pos HOP.out, Int.toNat_natCast, ← HE0.out, hlo]; rfl
          have hZ : readZ d k = d.has k := by unfold readZ; rw [Int.toNat_natCast, ← HE0.out]
          have HCL := Lib.hid (clone_some ⟨G, k * 259, none⟩ 256 256 (d.has k) wr (range_row (H1.out.hasR HK.out) (fun c hc => HH.out.byt k c HK.out hc) 256 (by omega)) (by omega))
          have HE := Lib.hid hE
          have HZ := Lib.hid hZ
          clear hE hZ hlo hj
          go_wp2_with fail
          refine HCL.out.mono ?_
          rintro e w2 ⟨v, rfl, h2, hc2⟩
          have HF := Lib.hid (HFIN.out v _ w2 HE.out HZ.out h2 hc2)
          clear h2 hc2
          go_wp2
          go_ret2
          exact HF.out
        · rw [hlo] at cl
          have hE : readE d k = 20 := by unfold readE; rw [if_pos HOP.out, Int.toNat_natCast, ← HE0.out, hlo]; rfl
          have HP := Lib.hid (show ReadPost base ⟨B, G, V, m, cG⟩ d k w (.returned (.tuple #[.slice none 0 0, .int .i64 20])) wr from
            ⟨_, by rw [hE], by rw [HRD.out]; exact H1.out, by rw [show readL d k = 0 by unfold readL; rw [hE]; rfl]; exact World.ownsRow_nil _ _ _ _, HC1.out⟩)
          clear hE hlo hj
          go_wp2
          go_ret2
          exact HP.out
      | succ j =>
        have ej : ((j + 1 : Nat) : Int) - 1 = (j : Int) := by omega
        rw [ej]
        obtain ⟨x, hx⟩ : ∃ x, d.W[j]? = some x := ⟨_, List.getElem?_eq_getElem (by rw [← HLN.out]; omega)⟩
        obtain ⟨g, cap, hv, hrg⟩ := H1.out.wt (k := j) (x := x) hx
        have hv2 := HV.out.symm.trans hv
        injection hv2 with q1 q2 q3
        subst q1
        subst q3
        have x0 : wr.cell? ⟨g, j * 257, none⟩ = some (.int .i64 (x.pl : Int)) := hrg 0 _ rfl
        have i3 : (0 : Int) ≤ (j : Int) := Int.natCast_nonneg _
        have i4 : (j : Int) < (L : Int) := by omega
        have hxm := H1.out.wok x (List.mem_of_getElem? hx)
        have hJ2 : scan d.W k (j + 1) = if x.pl = k then some x else scan d.W k j := by
          conv => lhs; unfold scan
          rw [hx]
        rw [HJ.out] at hJ2
        by_cases hq : x.pl = k
        · have t1 : ((x.pl : Int) == (k : Int)) = true := by simp [hq]
          have hE : readE d k = 0 := by unfold readE; rw [if_pos HOP.out, Int.toNat_natCast, hJ2, if_pos hq]; rfl
          have hZ : readZ d k = x.z := by unfold readZ; rw [Int.toNat_natCast, hJ2, if_pos hq]
          have hrr : wr.rangeAt g (j * 257 + 1) (bytesL 256 x.z) := fun i v hi => by
            have := hrg (i + 1) v (by
              have hi2 : i < 256 := by
                have := (List.getElem?_eq_some_iff.1 hi).1
                rwa [bytesL_len] at this
              rw [wtC_succ x hi2, ← hi, bytesL_get hi2])
            rwa [show j * 257 + (i + 1) = j * 257 + 1 + i by omega] at this
          have HCL := Lib.hid (clone_some ⟨g, j * 257 + 1, none⟩ 256 256 x.z wr (range_row hrr hxm.2 256 (by omega)) (by omega))
          have HE := Lib.hid hE
          have HZ := Lib.hid hZ
          clear hE hZ hrr hxm hrg hx hJ2 HJ hv hq q2 ej
          go_wp2_with fail
          refine HCL.out.mono ?_
          rintro e w2 ⟨v, rfl, h2, hc2⟩
          have HF := Lib.hid (HFIN.out v _ w2 HE.out HZ.out h2 hc2)
          clear h2 hc2
          go_wp2
          go_ret2
          exact HF.out
        · have t1 : ((x.pl : Int) == (k : Int)) = false := by simp; omega
          have HS := Lib.hid (show scan d.W k j = lastW d.W k by rw [hJ2, if_neg hq])
          clear hxm hrg hx hJ2 HJ hv hq q2 ej
          go_wp2
          go_roundw
          case rel => exact ⟨j, by omega, rfl, HS, trivial⟩
          case measure => simp [intOf] <;> omega
  · obtain ⟨e1, e2, e3⟩ := openE_ne hop
    have HP := Lib.hid (show ReadPost base p d a w (.returned (.tuple #[.slice none 0 0, .int .i64 (openE d a)])) w from ⟨_, by rw [e1], by rw [e2]; exact h, by rw [e3]; exact World.ownsRow_nil _ _ _ _, Ch.refl _ _⟩)
    have t1 : (openE d a != 0) = true := by simpa using hop
    clear hop e1 e2 e3 h
    go_enter Tryz.func94, Tryz.ntmps94
    go_wp2_with fail
    refine HO.out.mono ?_
    rintro e w' ⟨rfl, rfl⟩
    go_wp2
    go_ret2
    exact HP.out
end Go.Proofs.YtlbdopcchoklhaaGreat
