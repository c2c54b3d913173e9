/-
  A device that is blank, in plain words; what is told of a log whose sectors are damaged. Groups and sectors of any geometry, by any ints, plainly. Rows of ints in memory: rows that are read, rows of one's own, a number behind them; rows that are handed in, opened. The document's May, Groups, Bears, Ints (quartermasterref08), walked.
-/
import Derived.Test.YteleknojohnlbaaGreatMg46
import Derived.Test.YteleknojohnlbaaGreatMg12
import Derived.Test.YteleknojohnlbaaGreatMg26
import Derived.Test.YteleknojohnlbaaGreatMg1
import Derived.Test.YteleknojohnlbaaGreatMg2
namespace Go.Proofs.YteleknojohnlbaaGreat
open Go.RowKit
set_option linter.unusedVariables false
set_option maxRecDepth 100000

/-! ### blank -/
def bkTo (vol : Int) (n : Nat) : Nat → Dev
  | 0 => dev0 n
  | k + 1 => writeD (bkTo vol n k) (k : Int) 256 (sectZ (fbk vol (k : Int)))
def bkD (vol : Int) (n : Nat) : Dev := flushD (bkTo vol n n)
def bkW (vol : Int) (k : Nat) : List Wt := (List.range k).map fun a => ⟨a, sectZ (fbk vol (a : Int))⟩
theorem bk_to (vol : Int) (n : Nat) : ∀ k, k ≤ n → bkTo vol n k = { dev0 n with ops := k, W := bkW vol k }
  | 0, _ => rfl
  | k + 1, hk => by
    have ih := bk_to vol n k (by omega)
    have hb : hasB { dev0 n with ops := k, W := bkW vol k } (k : Int) = true := decide_eq_true (by show (0 : Int) ≤ (k : Int) ∧ (k : Int) < (n : Int); omega)
    have ho : openE { dev0 n with ops := k, W := bkW vol k } (k : Int) = 0 := by unfold openE; rw [hb]; rfl
    show writeD (bkTo vol n k) (k : Int) 256 _ = _
    rw [ih]
    unfold writeD
    rw [if_pos ⟨ho, rfl⟩, Int.toNat_natCast]
    unfold bkW
    rw [List.range_succ, List.map_append]
    rfl
theorem bk_writes (vol : Int) (n k : Nat) (hk : k < n) : writeE (bkTo vol n k) (k : Int) 256 = 0 := by
  rw [bk_to vol n k (by omega)]
  have hb : hasB { dev0 n with ops := k, W := bkW vol k } (k : Int) = true := decide_eq_true (by show (0 : Int) ≤ (k : Int) ∧ (k : Int) < (n : Int); omega)
  have ho : openE { dev0 n with ops := k, W := bkW vol k } (k : Int) = 0 := by unfold openE; rw [hb]; rfl
  unfold writeE
  rw [ho]
  rfl
theorem bk_last (vol : Int) (a : Nat) : ∀ k, lastW (bkW vol k) a = if a < k then some ⟨a, sectZ (fbk vol (a : Int))⟩ else none
  | 0 => rfl
  | k + 1 => by
    unfold bkW
    rw [List.range_succ, List.map_append, List.map_cons, List.map_nil, lastW_snoc]
    show (if k = a then _ else lastW (bkW vol k) a) = _
    rw [bk_last vol a k]
    by_cases q : k = a
    · subst q; rw [if_pos rfl, if_pos (by omega)]
    · rw [if_neg q]
      by_cases r : a < k
      · rw [if_pos r, if_pos (by omega)]
      · rw [if_neg r, if_neg (by omega)]
theorem bk_flush (vol : Int) (n : Nat) : bkD vol n = { finAll { dev0 n with ops := n, W := bkW vol n } (bkW vol n) with W := [] } := by
  unfold bkD
  rw [bk_to vol n n (Nat.le_refl _)]
  rfl
theorem bk_fine (vol : Int) (n : Nat) : Fine n (bkD vol n) ∧ (∀ a, a < n → HasZ (bkD vol n) a (sectZ (fbk vol (a : Int)))) ∧ (bkD vol n).ops = n := by
  rw [bk_flush]
  obtain ⟨h1, h2, h3, h4, h5, h6⟩ := finAll_same (bkW vol n) { dev0 n with ops := n, W := bkW vol n }
  have hn : (finAll { dev0 n with ops := n, W := bkW vol n } (bkW vol n)).n = n := finAll_n _ _
  refine ⟨⟨⟨hn, h4, h5, rfl⟩, fun a => (congrFun h2 a).trans rfl, fun a => (congrFun h3 a).trans rfl⟩, fun a ha => ?_, h1⟩
  obtain ⟨g1, g2⟩ := finAll_has { dev0 n with ops := n, W := bkW vol n } a (bkW vol n)
  rw [bk_last, if_pos ha] at g1 g2
  exact ⟨g2, fun c hc => congrFun g1 c⟩
theorem bk_lims (vol : Int) (n k : Nat) (hk : k ≤ n) : Lim (bkTo vol n k) n ∧ LimM (bkTo vol n k) n := by
  rw [bk_to vol n k hk]
  exact ⟨⟨hk, by show (bkW vol k).length ≤ n; unfold bkW; simp; exact hk, fun _ => Nat.zero_le _⟩, fun _ => Nat.zero_le _⟩
theorem bkD_lims (vol : Int) (n : Nat) : Lim (bkD vol n) n ∧ LimM (bkD vol n) n := by
  obtain ⟨f, _, o⟩ := bk_fine vol n
  exact ⟨⟨by rw [o]; exact Nat.le_refl _, by rw [f.qt.W]; exact Nat.zero_le _, fun a => by rw [f.drops a]; exact Nat.zero_le _⟩, fun a => by rw [f.miss a]; exact Nat.zero_le _⟩
theorem bk_log {vol : Int} {g : Gn} {n : Nat} (hN : 4 + 2 * g.W ≤ n) : DevL vol g (bkD vol n) (fun _ _ => .free) := fun c s hc hs => (bk_fine vol n).2.1 _ (adN_lt hc hs hN)
/-- A ring on it. -/
theorem bk_start {vol : Int} {g : Gn} (hg : g.Ok) {n : Nat} (hN : 4 + 2 * g.W ≤ n) {x : Rg} (hx : RgOk x) (hv : x.vol = vol) (hxg : x.g = g.ge) {st : Nat} (hs : x.start = (st : Int)) (hn : x.next = (st : Int)) : LogS (· = Ct.free) vol g st x.chain (bkD vol n) x (fun _ _ => .free) ([] : List (List Pn)).flatten :=
  ⟨bk_log hN, fun i q h => by simp at h, fun _ _ _ _ _ => rfl, trivial, ⟨rfl, Or.inl rfl⟩, hx, hv, hxg, hs, by rw [hn]; simp, Nat.zero_le _⟩

/-! ### told, where sectors are damaged -/
/-- Some of them went bad. -/
structure Hurt (W : Nat) (C D : Nat → Nat → Ct) : Prop where
  or : ∀ c s, c < 2 → s < W → D c s = C c s ∨ D c s = .bad
section
variable {vol : Int} {g : Gn} {st : Nat} {ch0 : Int} {d : Dev} {x : Rg} {C D : Nat → Nat → Ct} {T : List (List Pn)} {m : Mi}
theorem left_holds (h : LogS (· = Ct.free) vol g st ch0 d x C T.flatten) (hg : g.Ok) (hD : Hurt g.W C D) (hor : ∀ s, s < g.W → D 0 s = C 0 s ∨ D 1 s = C 1 s) : ∀ (i : Nat) (q : Pn), T.flatten[i]? = some q → q.seq = ((st + i : Nat) : Int) ∧ Holds D ((st + i) % g.W) q := fun i q hq => by
  obtain ⟨h1, h2⟩ := h.pcs i q hq
  have hs : (st + i) % g.W < g.W := Nat.mod_lt _ (by have := hg.w1; omega)
  refine ⟨h1, ?_⟩
  have a0 := h2 0 (by omega)
  have a1 := h2 1 (by omega)
  have o0 := hD.or 0 _ (by omega) hs
  have o1 := hD.or 1 _ (by omega) hs
  rw [a0] at o0
  rw [a1] at o1
  rcases hor _ hs with e | e
  · rw [a0] at e
    exact Or.inl ⟨e, o1⟩
  · rw [a1] at e
    rcases o0 with f | f
    · exact Or.inl ⟨f, Or.inl e⟩
    · exact Or.inr ⟨f, e⟩
/-- Where of each slot one sector is left. -/
theorem told_left (h : LogS (· = Ct.free) vol g st ch0 d x C T.flatten) (hg : g.Ok) (hT : ∀ t ∈ T, GoodTx t) (hD : Hurt g.W C D) (hor : ∀ s, s < g.W → D 0 s = C 0 s ∨ D 1 s = C 1 s) (hm : LogM m D) (hmv : m.vol = vol) (hmg : m.g = g) :
    allI m st ch0 = (T.flatten, false) ∧ tailR (sumM m) T.flatten (st : Int) ch0 = ⟨T.map joinP, x.next, x.chain⟩ := by
  have esm : sumM m = sumR vol g.ge := by funext p; show sumR m.vol m.g.ge p = _; rw [hmv, hmg]
  constructor
  · unfold allI
    refine run_ends hm ?_ (by rw [hmg]; exact h.le) ?_
    · rw [esm, hmg]
      exact takes_of h.fits (left_holds h hg hD hor)
    · rw [hmg]
      by_cases q : T.flatten.length = g.W
      · exact Or.inl q
      · right
        have hs : (st + T.flatten.length) % g.W < g.W := Nat.mod_lt _ (by have := hg.w1; omega)
        have hfr : ∀ c, c < 2 → C c ((st + T.flatten.length) % g.W) = .free := fun c hc => h.rest _ hs (fun i hi => fun e => mod_ne (st := st) (i := T.flatten.length) (j := i) (by have := h.le; omega) (by have := h.le; omega) (by omega) e) c hc
        refine stops_of (fun c hc => ?_) ?_
        · have := hD.or c _ hc hs
          rw [hfr c hc] at this
          exact this
        · have := hor _ hs
          rw [hfr 0 (by omega), hfr 1 (by omega)] at this
          exact this
  · have := tail_txs (sm := sumM m) (T := T) (L := []) (start := (st : Int)) (chain := ch0) hT whole_nil
    rw [List.append_nil] at this
    rw [this, esm, h.aft.1, h.next]
    simp only [Tl.mk.injEq, and_true, true_and]
    omega
/-- Where both sectors of a slot that is wanted are bad, and no other. -/
theorem told_both (h : LogS (· = Ct.free) vol g st ch0 d x C T.flatten) (hg : g.Ok) {wh : Nat} (hw : wh < T.flatten.length) (hD : ∀ c s, c < 2 → s < g.W → s ≠ (st + wh) % g.W → D c s = C c s) (hb : ∀ c, c < 2 → D c ((st + wh) % g.W) = .bad) (hm : LogM m D) (hmv : m.vol = vol) (hmg : m.g = g) : (allI m st ch0).2 = true := by
  have esm : sumM m = sumR vol g.ge := by funext p; show sumR m.vol m.g.ge p = _; rw [hmv, hmg]
  have hle := h.le
  have hl : (T.flatten.take wh).length = wh := by rw [List.length_take]; omega
  have hf : FitsL (sumR vol g.ge) pn0 ch0 (T.flatten.take wh) := by
    have : ∀ (P : List Pn) (k : Nat) (a : Pn) (s : Int), FitsL (sumR vol g.ge) a s P → FitsL (sumR vol g.ge) a s (P.take k) := by
      intro P
      induction P with
      | nil => intro k a s h; rw [List.take_nil]; trivial
      | cons p P ih =>
        intro k a s h
        cases k with
        | zero => trivial
        | succ k => exact ⟨h.1, ih k p _ h.2⟩
    exact this _ _ _ _ h.fits
  unfold allI
  refine run_hurt hm (P := T.flatten.take wh) ?_ (by rw [hl, hmg]; omega) ?_
  · rw [esm, hmg]
    refine takes_of hf fun i q hq => ?_
    have hi : i < wh := by have := (List.getElem?_eq_some_iff.1 hq).1; omega
    rw [List.getElem?_take_of_lt hi] at hq
    obtain ⟨h1, h2⟩ := h.pcs i q hq
    have hs : (st + i) % g.W < g.W := Nat.mod_lt _ (by have := hg.w1; omega)
    have hne : (st + i) % g.W ≠ (st + wh) % g.W := mod_ne (by omega) (by omega) (by omega)
    exact ⟨h1, Or.inl ⟨by rw [hD 0 _ (by omega) hs hne]; exact h2 0 (by omega), Or.inl (by rw [hD 1 _ (by omega) hs hne]; exact h2 1 (by omega))⟩⟩
  · rw [hl, hmg]
    unfold clS
    rw [hb 0 (by omega), hb 1 (by omega)]
    rfl
end
#print axioms told_left
#print axioms told_both
end Go.Proofs.YteleknojohnlbaaGreat
namespace Go.Proofs.YteleknojohnlbaaGreat
open Go.RowKit
set_option linter.unusedVariables false
set_option maxRecDepth 100000

def toGn (g : Ge) : Gn := ⟨g.wal.toNat, g.st.toNat, g.k.toNat, g.m.toNat⟩
theorem toGn_ge (n : Gn) : toGn n.ge = n := by
  obtain ⟨a, b, c, d⟩ := n
  unfold toGn Gn.ge
  simp only [Int.toNat_natCast]
def inG (g : Ge) (i : Int) : Bool := decide (0 ≤ i ∧ i < grpG g)
def cntG (g : Ge) (i : Int) : Nat := if inG g i then (toGn g).cnt i.toNat else 0
def brsG (g : Ge) (i : Int) : Nat := if inG g i then (toGn g).brs i.toNat else 0
def secG (g : Ge) (i : Int) (p : Nat) : Int := ((toGn g).sec i.toNat p : Int)
def atG (g : Ge) (a : Int) : Bool := decide (0 ≤ a ∧ a < totG g)
def whE (g : Ge) (a : Int) : Int := if mayG g then (if atG g a then 0 else 3) else 1
def whI (g : Ge) (a : Int) : Int := if atG g a then ((toGn g).ofA a.toNat : Int) else 0
def whJ (g : Ge) (a : Int) : Int := if atG g a then ((toGn g).plA a.toNat : Int) else 0
def whV (g : Ge) (a : Int) : Value := .tuple #[.int .i64 (whI g a), .int .i64 (whJ g a), .int .i64 (whE g a)]
theorem inG_no {g : Ge} {i : Int} (h : inG g i = false) : cntG g i = 0 ∧ brsG g i = 0 := by unfold cntG brsG; rw [h]; exact ⟨rfl, rfl⟩
theorem inG_may {g : Ge} {i : Int} (h : inG g i = true) : mayG g = true := by
  have h1 := of_decide_eq_true h
  cases t : mayG g
  · rw [grpG_no t] at h1; omega
  · rfl
theorem inG_nat {g : Ge} {i : Int} (h : inG g i = true) : ∃ (n : Gn) (j : Nat), n.Ok ∧ g = n.ge ∧ i = (j : Int) ∧ j < n.grp := by
  obtain ⟨n, hn, rfl⟩ := may_nat (inG_may h)
  have h1 := of_decide_eq_true h
  rw [grpG_ok hn] at h1
  exact ⟨n, i.toNat, hn, rfl, by omega, by omega⟩
theorem inG_ok {n : Gn} (h : n.Ok) {j : Nat} (hj : j < n.grp) : inG n.ge (j : Int) = true := decide_eq_true (by rw [grpG_ok h]; omega)
theorem cntG_ok {n : Gn} (h : n.Ok) {j : Nat} (hj : j < n.grp) : cntG n.ge (j : Int) = n.cnt j := by unfold cntG; rw [inG_ok h hj, if_pos rfl, toGn_ge, Int.toNat_natCast]
theorem brsG_ok {n : Gn} (h : n.Ok) {j : Nat} (hj : j < n.grp) : brsG n.ge (j : Int) = n.brs j := by unfold brsG; rw [inG_ok h hj, if_pos rfl, toGn_ge, Int.toNat_natCast]
theorem secG_ok (n : Gn) (j p : Nat) : secG n.ge (j : Int) p = (n.sec j p : Int) := by unfold secG; rw [toGn_ge, Int.toNat_natCast]
theorem cntG_le (g : Ge) (i : Int) : cntG g i ≤ 24 := by
  cases t : inG g i
  · rw [(inG_no t).1]; omega
  · obtain ⟨n, j, hn, rfl, rfl, hj⟩ := inG_nat t
    rw [cntG_ok hn hj]
    exact Gn.cnt_le hn j
theorem whE_no {g : Ge} {a : Int} (h : mayG g = false) : whV g a = .tuple #[.int .i64 0, .int .i64 0, .int .i64 1] := by
  have : atG g a = false := decide_eq_false (by rw [totG_no h]; omega)
  unfold whV whI whJ whE
  rw [h, this]
  rfl
theorem whE_off {g : Ge} {a : Int} (h : mayG g = true) (k : atG g a = false) : whV g a = .tuple #[.int .i64 0, .int .i64 0, .int .i64 3] := by
  unfold whV whI whJ whE
  rw [h, k]
  rfl
theorem atG_nat {n : Gn} (h : n.Ok) {a : Int} (k : atG n.ge a = true) : ∃ b : Nat, a = (b : Int) ∧ b < n.tot := by
  have h1 := of_decide_eq_true k
  rw [totG_ok h] at h1
  exact ⟨a.toNat, by omega, by omega⟩
theorem atG_ok {n : Gn} (h : n.Ok) {b : Nat} (hb : b < n.tot) : atG n.ge (b : Int) = true := decide_eq_true (by rw [totG_ok h]; omega)
theorem whE_at {n : Gn} (h : n.Ok) {b : Nat} (hb : b < n.tot) : whV n.ge (b : Int) = .tuple #[.int .i64 (n.ofA b : Int), .int .i64 (n.plA b : Int), .int .i64 0] := by
  unfold whV whI whJ whE
  rw [ok_may h, atG_ok h hb, toGn_ge, Int.toNat_natCast]
  rfl
#print axioms whE_at
end Go.Proofs.YteleknojohnlbaaGreat
namespace Go.Proofs.YteleknojohnlbaaGreat
open Go.ChangeShapes Go.WideShapes Go.ChangeAt Go.RowKit Go.Deep
set_option linter.unusedVariables false
set_option maxRecDepth 100000

theorem Tryz.infoI : (Tryz.prog.info? /-t-/3).map (fun i => (i.zero, i.size, i.bytes)) = some (some (.int .i64 0), 1, 8) := by kernel_rfl
theorem underI : Tryz.prog.underlying 45 = some (.slice /-t-/3) := by kernel_rfl
theorem underN : Tryz.prog.underlying /-t-/3 = some (.int .i64) := by kernel_rfl
/-! ### lists of ints -/
def numL (k : Nat) (q : Nat → Int) : List Value := (List.range k).map fun c => Value.int .i64 (q c)
theorem numL_len (k : Nat) (q : Nat → Int) : (numL k q).length = k := by unfold numL; simp
theorem numL_get {k c : Nat} {q : Nat → Int} (h : c < k) : (numL k q)[c]? = some (.int .i64 (q c)) := by unfold numL; simp [h]
theorem numL_none {k c : Nat} {q : Nat → Int} (h : ¬ c < k) : (numL k q)[c]? = none := List.getElem?_eq_none (by rw [numL_len]; omega)
theorem numL_one {k : Nat} {q : Nat → Int} : ∀ u ∈ numL k q, u.oneCell' = true := fun u hu => by
  unfold numL at hu; obtain ⟨c, _, rfl⟩ := List.mem_map.1 hu; rfl
theorem numL_snoc (k : Nat) (q : Nat → Int) : numL (k + 1) q = numL k q ++ [Value.int .i64 (q k)] := by unfold numL; rw [List.range_succ, List.map_append]; rfl
theorem numL_congr {k : Nat} {q r : Nat → Int} (h : ∀ c, c < k → q c = r c) : numL k q = numL k r := List.map_congr_left fun c hc => by rw [h c (List.mem_range.1 hc)]

/-! ### a row, to be read -/
def IntV (w : World) (v : Value) (n : Nat) (q : Nat → Int) : Prop :=
  ∃ (A : Option Addr) (C : Nat), v = .slice A n C ∧ (n ≤ 140737488351232 ∧ n ≤ C) ∧ (0 < n → ∃ b o, A = some ⟨b, o, none⟩ ∧ ∀ c, c < n → w.cell? ⟨b, o + c, none⟩ = some (.int .i64 (q c)))
theorem IntV.ch {S : Nat → Prop} {w w' : World} {v : Value} {n : Nat} {q : Nat → Int} (h : IntV w v n q) (k : Ch S w w') (hS : ∀ i, i < w.heap.size → ¬ S i) : IntV w' v n q := by
  obtain ⟨A, C, h1, h2, h3⟩ := h
  refine ⟨A, C, h1, h2, fun hl => ?_⟩
  obtain ⟨b, o, hA, hc⟩ := h3 hl
  exact ⟨b, o, hA, fun c hcl => k.cell (hc c hcl) (hS _ (World.block_lt_of_cell? _ _ (hc c hcl)))⟩
theorem IntV.gr {w w' : World} {v : Value} {n : Nat} {q : Nat → Int} (h : IntV w v n q) (k : Ch (fun _ => False) w w') : IntV w' v n q := h.ch k (fun _ _ f => f)
theorem IntV.congr {w : World} {v : Value} {n : Nat} {q r : Nat → Int} (h : IntV w v n q) (e : ∀ c, c < n → q c = r c) : IntV w v n r := by
  obtain ⟨A, C, h1, h2, h3⟩ := h
  refine ⟨A, C, h1, h2, fun hl => ?_⟩
  obtain ⟨b, o, hA, hc⟩ := h3 hl
  exact ⟨b, o, hA, fun c hcl => by rw [← e c hcl]; exact hc c hcl⟩
theorem IntV.at {w : World} {A : Option Addr} {n C : Nat} {q : Nat → Int} (h : IntV w (.slice A n C) n q) (hn : 0 < n) : ∃ b o, A = some ⟨b, o, none⟩ ∧ ∀ c, c < n → w.cell? ⟨b, o + c, none⟩ = some (.int .i64 (q c)) := by
  obtain ⟨_, _, e, _, h3⟩ := h
  injection e with e _ _
  subst e
  exact h3 hn
theorem IntV.len {w : World} {v : Value} {n : Nat} {q : Nat → Int} (h : IntV w v n q) : ∃ A C, v = .slice A n C ∧ n ≤ 140737488351232 := by
  obtain ⟨A, C, h1, h2, _⟩ := h
  exact ⟨A, C, h1, h2.1⟩
theorem none_intV (w : World) (q : Nat → Int) (C : Nat) : IntV w (.slice none 0 C) 0 q := ⟨none, C, rfl, by omega, fun h => absurd h (Nat.lt_irrefl 0)⟩
theorem own_intV {w : World} {base k : Nat} {v : Value} {q : Nat → Int} (h : w.ownsRow base /-t-/3 1 v k (numL k q)) (hk : k ≤ 140737488351232) : IntV w v k q := by
  rcases h.2 with ⟨rfl, h0⟩ | ⟨g, cap, cur, rfl, hb, hgg, hcap, hm, hs, ht⟩
  · subst h0; exact none_intV w q 0
  · refine ⟨_, _, rfl, ⟨hk, hcap⟩, fun _ => ⟨g, 0, rfl, fun c hc => ?_⟩⟩
    have := World.ownsRow.cells h (g := g) rfl c (Value.int .i64 (q c)) (numL_get hc)
    rwa [add_pl] at this
/-- A row that was written out, or made, in a block of its own. -/
theorem row_intV {w : World} {b n : Nat} {q : Nat → Int} (h : w.rowIs b /-t-/3 n (fun i => .int .i64 (q i))) (hn : n ≤ 140737488351232) : IntV w (.slice (some ⟨b, 0, none⟩) n n) n q :=
  ⟨_, _, rfl, ⟨hn, Nat.le_refl _⟩, fun _ => ⟨b, 0, rfl, fun c hc => by rw [Nat.zero_add]; exact h.cell hc⟩⟩
theorem made_int (n : Nat) (w : World) (hn : n ≤ 1048576) : (Instr.makeSlice 45 (.int .i64 (n : Int)) (.int .i64 (n : Int))).run Tryz.prog w = .ok (.slice (some ⟨w.heap.size, 0, none⟩) n n) (w.alloc (.cells (madeCells #[.int .i64 0] n) /-t-/3)) := by
  obtain ⟨i0, hi, hz0, hz1, hz2⟩ := info_parts Tryz.infoI
  have := run_make (P := Tryz.prog) w 45 /-t-/3 i0 (.int .i64 0) underI hi hz0 .i64 .i64 n n (by omega) (by omega) (by rw [hz2]; omega) (by omega)
  rw [hz1, Int.toNat_natCast, Nat.mul_one] at this
  exact this
theorem made_row (n : Nat) (w : World) : (w.alloc (.cells (madeCells #[.int .i64 0] n) /-t-/3)).rowIs w.heap.size /-t-/3 n (fun _ => .int .i64 0) := World.rowIs_made w (.int .i64 0) n /-t-/3

/-! ### a number behind them -/
theorem wpList_appI {ops : Array Oper} {rest : List Oper} {o : Oper} {a : Act} {Q : Exit → Act → World → Prop} (w : World) (hgd : o.guard = none) (s x : Operand)
    (ho : o.op = .call { callee := .builtin .append, args := #[s, x], argTypes := #[ 45, 45] }) (hty : o.type = 45) (sv xv v' : Value) (w' : World) (hs : a.eval s = sv) (hx : a.eval x = xv)
    (hrun : (Builtin.append_ #[ 45, 45] 45 #[sv, xv]).run Tryz.prog w = .ok v' w') (h : wpList Tryz.prog ops Q rest (a.put o.dst v') w') : wpList Tryz.prog ops Q (o :: rest) a w := by
  refine wpList_plain hgd fun _ hK => ?_
  unfold Oper.wp execOp
  simp only [ho, hty, resolve, invoke, builtin, Sem.run_bind, Sem.run_pure, Result.andThen_ok, List.map_toArray, List.map_cons, List.map_nil, hs, hx, hrun]
  exact hK _ _ h
/-- Numbers that a call has gathered, one behind the other, since 'w'. -/
structure Nums (w wr : World) (v : Value) (k : Nat) (q : Nat → Int) : Prop where
  own : wr.ownsRow w.heap.size /-t-/3 1 v k (numL k q)
  ch : Ch (fun _ => False) w wr
theorem Nums.start (w : World) (q : Nat → Int) : Nums w w (.slice none 0 0) 0 q := ⟨World.ownsRow_nil w w.heap.size /-t-/3 1, Ch.refl _ w⟩
theorem Nums.app {w wr : World} {v : Value} {k : Nat} {q : Nat → Int} (h : Nums w wr v k q) (hk : k ≤ 1048576) :
    ∃ g cap w2, (∀ x, x = q k → (Builtin.append_ #[ 45, 45] 45 #[v, .slice (some ⟨wr.heap.size, 0, none⟩) 1 1]).run Tryz.prog (wr.alloc (.cells #[.int .i64 x] /-t-/3)) = .ok (.slice (some ⟨g, 0, none⟩) (k + 1) cap) w2) ∧ Nums w w2 (.slice (some ⟨g, 0, none⟩) (k + 1) cap) (k + 1) q := by
  obtain ⟨i0, hi, hz0, hz1, hz2⟩ := info_parts Tryz.infoI
  have k1 : Ch (fun _ => False) wr (wr.alloc (.cells #[.int .i64 (q k)] /-t-/3)) := (Ch.refl _ wr).alloc _ _
  obtain ⟨g, cap, w2, hr, h2, h3, h4, _⟩ := run_append_lies (P := Tryz.prog) (wr.alloc (.cells #[.int .i64 (q k)] /-t-/3)) 45 45 w.heap.size /-t-/3 i0 (.int .i64 0) 1 8 underI hi hz0 hz1 hz2 rfl (by decide) v k (numL k q) (ownsRow_ch h.own k1) ⟨wr.heap.size, 0, none⟩ 1 1 [.int .i64 (q k)] rfl (fun j u hu => by
    rw [add_pl, blk_cell (heap_alloc_new wr _), Nat.zero_add]
    show ([Value.int .i64 (q k)].toArray)[j]? = some u
    rw [List.getElem?_toArray]
    exact hu) (fun u hu => by rw [List.mem_singleton.1 hu]; rfl) (by omega) (by unfold maxLen; omega) (by omega) (Nat.le_trans h.ch.size k1.size) _ rfl
  rw [← numL_snoc] at h2
  refine ⟨g, cap, w2, fun x hx => by subst hx; exact hr, h2, ?_⟩
  have kc := h.ch.trans k1
  have k2 : Ch (fun i => v.ownBlock = some i) (wr.alloc (.cells #[.int .i64 (q k)] /-t-/3)) w2 := (Ch.refl _ _).grown h3 (fun i hi => Or.inl hi)
  refine kc.new (k2.mono fun i _ hi => ?_)
  exact (own_at h.own hi).1
#print axioms Nums.app

/-! ### a row that is handed in -/
theorem cellsN : Tryz.prog.cellsOf /-t-/3 = 1 := by kernel_rfl
theorem bytesN : Tryz.prog.bytesOf /-t-/3 = 8 := by kernel_rfl
theorem open_ints_arg {H : Type} {enc : TypeId × Value → H} {W : World} {v : Value} {d : DataW H} {p : List MemPlace} (hv : ∃ a len cap, v = .slice a len cap) (h : DataW.Trod enc Tryz.prog W 0 (fun _ => true) true 45 v d p)
    (s1 : ∀ elems spare, d = .slice elems spare → (elems.length + spare.length) * 8 ≤ reachBytes) : ∃ n q, IntV W v n q := by
  obtain ⟨a0, len, cap, rfl⟩ := hv
  obtain ⟨fuel, hf⟩ := h
  rcases open_ints underI underN cellsN hf with ⟨hcs0, hx⟩ | ⟨a, len', cap', zs, hcs0, _, hl, hm, hzl, hx, hcell, hwf⟩
  · simp [Value.cells] at hcs0
    obtain ⟨rfl, rfl, rfl⟩ := hcs0
    exact ⟨0, fun _ => 0, none_intV W _ 0⟩
  · simp [Value.cells] at hcs0
    obtain ⟨rfl, rfl, rfl⟩ := hcs0
    simp only [Prod.mk.injEq] at hx
    obtain ⟨rfl, rfl⟩ := hx
    simp only [if_true] at hzl
    have hlen := s1 _ _ rfl
    simp only [lits, List.length_map, List.length_take, List.length_drop, hzl, reach_eq] at hlen
    refine ⟨len, fun c => zs.getD c 0, some a, cap, rfl, by omega, fun h0 => ?_⟩
    obtain ⟨b, o, rfl⟩ := addr_none (hcell 0 (by omega))
    exact ⟨b, o, rfl, fun c hc => by have hcc := hcell c (by omega); rwa [add_pl] at hcc⟩
#print axioms open_ints_arg
end Go.Proofs.YteleknojohnlbaaGreat
namespace Go.Proofs.YteleknojohnlbaaGreat
open Go.RowKit
set_option linter.unusedVariables false
set_option maxRecDepth 100000

/-! ### May -/
set_option maxHeartbeats 1600000 in
theorem rgmay_any (g : Ge) (w : World) : Calls Tryz.prog 38 #[.agg (geC g)] w (Ans (.bool (mayG g)) w) := by
  obtain ⟨w1, H, hR⟩ := geR w g
  obtain ⟨x0, x1, x2, x3⟩ := hR.x
  have HR := Lib.hid hR
  clear hR
  cases t1 : mayG g
  · obtain ⟨a, b, c, d⟩ := g
    simp only at x0 x1 x2 x3
    have hcase : (a < 8 ∨ (8 ≤ a ∧ 512 < a)) ∨ ((8 ≤ a ∧ a ≤ 512) ∧ (b < 1 ∨ (1 ≤ b ∧ 32 < b))) ∨ ((8 ≤ a ∧ a ≤ 512) ∧ (1 ≤ b ∧ b ≤ 32) ∧ (c < 1 ∨ (1 ≤ c ∧ 16 < c))) ∨ ((8 ≤ a ∧ a ≤ 512) ∧ (1 ≤ b ∧ b ≤ 32) ∧ (1 ≤ c ∧ c ≤ 16) ∧ (d < 1 ∨ (1 ≤ d ∧ 8 < d))) := by
      have h2 : ¬ ((8 ≤ a ∧ a ≤ 512) ∧ (1 ≤ b ∧ b ≤ 32) ∧ (1 ≤ c ∧ c ≤ 16) ∧ (1 ≤ d ∧ d ≤ 8)) := fun q => by
        have : mayG ⟨a, b, c, d⟩ = true := by
          rw [mayG_eq]
          simp only [Bool.and_eq_true, inB_true]
          exact q
        rw [t1] at this
        cases this
      omega
    have HC := Lib.hid hcase
    clear hcase t1
    rcases HC.out with (h | ⟨h, k⟩) | ⟨⟨p1, p2⟩, (h | ⟨h, k⟩)⟩ | ⟨⟨p1, p2⟩, ⟨p3, p4⟩, (h | ⟨h, k⟩)⟩ | ⟨⟨p1, p2⟩, ⟨p3, p4⟩, ⟨p5, p6⟩, (h | ⟨h, k⟩)⟩
    all_goals (
      clear HC
      go_enter Tryz.func38, Tryz.ntmps38
      go_wp2_with ((with_reducible refine wpList_isOp (.box 23 (.tmp 0)) rfl ?_); refine wpList_boxing _ w1 rfl 23 (.tmp 0) rfl (geC ⟨a, b, c, d⟩) H rfl (by exact HR.out.sz) (by exact HR.out.al) ?_)
      go_ret
      exact ⟨rfl, HR.out.ch⟩)
  · obtain ⟨n, hn, rfl⟩ := may_nat t1
    obtain ⟨⟨p1, p2⟩, ⟨p3, p4⟩, ⟨p5, p6⟩, ⟨p7, p8⟩⟩ := may_parts t1
    have HD := Lib.hid (show decide (wrap64 (4 + 2 * n.ge.wal + wrap64 (2 * n.ge.st * (n.ge.k + n.ge.m))) ≤ 4096) = true by
      have b1 := hn.tot2
      have b2 := hn.t2
      have e0 : n.ge.st * (n.ge.k + n.ge.m) = ((n.S * n.q : Nat) : Int) := by unfold Gn.q; rw [Int.natCast_mul, Int.natCast_add]; rfl
      rw [Int.mul_assoc, e0, IntWalk.wrap64_in (2 * ((n.S * n.q : Nat) : Int)) ⟨by omega, by omega⟩, IntWalk.wrap64_in _ ⟨by omega, by omega⟩]
      exact decide_eq_true (by omega))
    clear hn t1
    go_enter Tryz.func38, Tryz.ntmps38
    go_wp2_with ((with_reducible refine wpList_isOp (.box 23 (.tmp 0)) rfl ?_); refine wpList_boxing _ w1 rfl 23 (.tmp 0) rfl (geC n.ge) H rfl (by exact HR.out.sz) (by exact HR.out.al) ?_)
    go_ret
    exact ⟨ret_bool HD.out, HR.out.ch⟩
#print axioms rgmay_any

/-! ### Groups, Bears -/
/-! ### Ints -/
def eqI (n m : Nat) (q r : Nat → Int) : Bool := decide (n = m ∧ ∀ c, c < n → q c = r c)
theorem eqI_self (n : Nat) (q : Nat → Int) : eqI n n q q = true := decide_eq_true ⟨rfl, fun _ _ => rfl⟩
end Go.Proofs.YteleknojohnlbaaGreat
