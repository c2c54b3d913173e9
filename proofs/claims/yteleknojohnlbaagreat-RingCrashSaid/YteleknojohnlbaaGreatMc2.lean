/-
  A geometry that is handed in, opened. The document's Same (quartermasterref04), walked. A device in memory: what its block, its sectors, what waits and what is misled hold, in plain words; what may happen to it. law06.Sector; disk.New; (*disk.Disk).Dead, Len, Ops, has, open, dies, walked.
-/
import Derived.Test.YteleknojohnlbaaGreatMc1
import Derived.Deep.Slices
import Derived.Deep.Fields
import Derived.ChangeSame
import Derived.Deep.MidRow
import Derived.Lib.LazyBuf
namespace Go.Proofs.YteleknojohnlbaaGreat
open Go.ChangeShapes Go.WideShapes Go.ChangeAt Go.RowKit Go.Deep
set_option linter.unusedVariables false
set_option maxRecDepth 100000
theorem under_geo_int : Tryz.prog.underlying /-t-/3 = some (.int .i64) := by kernel_rfl
theorem cellsGeo : Tryz.prog.cellsOf 23 = 4 := by kernel_rfl
theorem open_geo {H : Type} {enc : TypeId × Value → H} {W : World} {v : Value} {d : DataW H} {p : List MemPlace} {b0 : Nat} {r : Reach} (hv : Value.okWide Tryz.prog W r b0 23 v) (h : DataW.Trod enc Tryz.prog W 0 (fun _ => true) true 23 v d p) : ∃ g : Ge, GeIs g ∧ v = .agg (geC g) := by
  simp only [Value.okWide, Tryz.underlying23] at hv
  obtain ⟨xs, rfl, h2, _⟩ := hv
  obtain ⟨fuel, hf⟩ := h
  obtain ⟨ys, n', hn', hy, hlen', hyl, hfl⟩ := DataW.trod_struct Tryz.underlying23 hf
  obtain ⟨l⟩ := xs
  have hlen4 : l.length = 4 := by
    have : l.length = Tryz.prog.cellsOf 23 := by simpa using h2
    exact this.trans cellsGeo
  match l, hlen4 with
  | [x0, x1, x2, x3], _ =>
    have g0 : DataW.trod enc Tryz.prog W 0 (fun _ => true) true n' /-t-/3 [x0] = ys[0]? := hfl 0 _ rfl
    have g1 : DataW.trod enc Tryz.prog W 0 (fun _ => true) true n' /-t-/3 [x1] = ys[1]? := hfl 1 _ rfl
    have g2 : DataW.trod enc Tryz.prog W 0 (fun _ => true) true n' /-t-/3 [x2] = ys[2]? := hfl 2 _ rfl
    have g3 : DataW.trod enc Tryz.prog W 0 (fun _ => true) true n' /-t-/3 [x3] = ys[3]? := hfl 3 _ rfl
    have hys : ys.length = 4 := hyl
    match ys, hys with
    | [y0, y1, y2, y3], _ =>
      obtain ⟨a0, e0, _, w0⟩ := DataW.trod_int under_geo_int g0
      obtain ⟨a1, e1, _, w1⟩ := DataW.trod_int under_geo_int g1
      obtain ⟨a2, e2, _, w2⟩ := DataW.trod_int under_geo_int g2
      obtain ⟨a3, e3, _, w3⟩ := DataW.trod_int under_geo_int g3
      simp only [List.cons.injEq, and_true] at e0 e1 e2 e3
      refine ⟨⟨a0, a1, a2, a3⟩, ⟨b64 w0, b64 w1, b64 w2, b64 w3⟩, ?_⟩
      rw [e0, e1, e2, e3]
      rfl
end Go.Proofs.YteleknojohnlbaaGreat
namespace Go.Proofs.YteleknojohnlbaaGreat
open Go.RowKit
set_option linter.unusedVariables false
set_option maxRecDepth 100000
def eqB (n m : Nat) (z y : Nat → Nat) : Bool := decide (n = m ∧ ∀ c, c < n → z c = y c)
theorem RowV.at {w : World} {A : Option Addr} {n C : Nat} {z : Nat → Nat} (h : RowV w (.slice A n C) n z) (hn : 0 < n) : ∃ b o, A = some ⟨b, o, none⟩ ∧ ∀ c, c < n → w.cell? ⟨b, o + c, none⟩ = some (.int .u8 (z c : Int)) := by
  obtain ⟨_, _, e, _, h3⟩ := h
  injection e with e _ _
  subst e
  obtain ⟨b, o, rfl, h4⟩ := h3 hn
  exact ⟨b, o, rfl, fun c hc => (h4 c hc).1⟩
set_option maxHeartbeats 800000 in
set_option maxRecDepth 100000 in
theorem same_any (A B : Option Addr) (n m C D : Nat) (z y : Nat → Nat) (w : World) (h : RowV w (.slice A n C) n z) (h2 : RowV w (.slice B m D) m y) : Calls Tryz.prog 14 #[.slice A n C, .slice B m D] w (Qu (.bool (eqB n m z y)) w) := by
  obtain ⟨_, _, _, hl, _⟩ := id h
  have hl1 := hl.1
  obtain ⟨_, _, _, hm, _⟩ := id h2
  have hm1 := hm.1
  clear hl hm
  by_cases e : n = m
  · subst e
    have t1 : ((n : Int) != (n : Int)) = false := by simp
    have HV := Lib.hid h
    have HV2 := Lib.hid h2
    clear h h2
    go_enter Tryz.func14, Tryz.ntmps14
    go_wp2
    go_loopw [5] (fun i wr => ∃ k : Nat, k ≤ n ∧ i = .int .i64 k ∧ (∃ d, wr = w.drewN d) ∧ Hid (∀ c, c < k → z c = y c)) (fun i _ => n - (intOf i).toNat)
    case atStart => exact ⟨0, Nat.zero_le _, rfl, ⟨0, rfl⟩, fun c hc => absurd hc (Nat.not_lt_zero c)⟩
    case round =>
      obtain ⟨k, hk, rfl, ⟨d, rfl⟩, HK⟩ := hrel
      by_cases hlt : k < n
      · obtain ⟨b, o, rfl, hc⟩ := HV.out.at (by omega)
        obtain ⟨b2, o2, rfl, hc2⟩ := HV2.out.at (by omega)
        have c1 := hc k hlt
        have c2 := hc2 k hlt
        have i1 : (0 : Int) ≤ (k : Int) := Int.natCast_nonneg _
        have i2 : (k : Int) < (n : Int) := by omega
        clear hc hc2
        by_cases q : z k = y k
        · have t2 : ((z k : Int) != (y k : Int)) = false := by simp [q]
          have HS : Hid (∀ c, c < k + 1 → z c = y c) := fun c hc => by
            by_cases e : c = k
            · rw [e]; exact q
            · exact HK c (by omega)
          clear q
          go_wp2
          go_quiet (fail)
          go_wp2
          go_roundw
          case rel => exact ⟨k + 1, by omega, by go_num, ⟨_, rfl⟩, HS⟩
          case measure => simp [intOf]; omega
        · have t2 : ((z k : Int) != (y k : Int)) = true := by simp; omega
          have HS := Lib.hid (show eqB n n z y = false from decide_eq_false fun h => q (h.2 k hlt))
          clear q
          go_wp2
          go_quiet (fail)
          go_wp2
          go_ret
          exact ⟨ret_bool HS.out.symm, _, World.drewN_drewN _ _ _⟩
      · obtain rfl : k = n := by omega
        have HS := Lib.hid (show eqB k k z y = true from decide_eq_true ⟨rfl, HK.out⟩)
        go_wp2
        go_ret
        exact ⟨ret_bool HS.out.symm, _, rfl⟩
  · have t1 : ((n : Int) != (m : Int)) = true := by simp; omega
    have HS := Lib.hid (show eqB n m z y = false from decide_eq_false fun h => e h.1)
    clear e h h2
    go_enter Tryz.func14, Tryz.ntmps14
    go_wp2
    go_ret
    exact ⟨ret_bool HS.out.symm, 0, rfl⟩
end Go.Proofs.YteleknojohnlbaaGreat
namespace Go.Proofs.YteleknojohnlbaaGreat
open Go.RowKit
set_option linter.unusedVariables false
set_option maxRecDepth 100000
structure Wt where
  pl : Nat
  z : Nat → Nat
structure Dev where
  n : Nat
  has : Nat → Nat → Nat
  lost : Nat → Bool
  drops : Nat → Nat
  miss : Nat → List Nat
  W : List Wt
  dead : Bool
  armed : Bool
  left : Int
  ops : Nat
def up {α : Type} (f : Nat → α) (a : Nat) (x : α) (i : Nat) : α := if i = a then x else f i
theorem up_same {α : Type} (f : Nat → α) (a : Nat) (x : α) : up f a x a = x := if_pos rfl
theorem up_other {α : Type} (f : Nat → α) {a i : Nat} (x : α) (h : i ≠ a) : up f a x i = f i := if_neg h
def SecsIs (w : World) (b : Nat) (t : TypeId) (n : Nat) (f : Nat → Value) : Prop :=
  ∃ c : Array Value, w.heap[b]? = some (.cells c t (0, 0)) ∧ n ≤ c.size ∧ ∀ i, i < n → c[i]? = some (f i)
namespace SecsIs
variable {w : World} {b : Nat} {t : TypeId} {n : Nat} {f g : Nat → Value}
theorem of_row (h : w.rowIs b t n f) : SecsIs w b t n f := by
  obtain ⟨c, hb, hn, hc⟩ := h
  exact ⟨c, hb, Nat.le_of_eq hn.symm, hc⟩
theorem cell (h : SecsIs w b t n f) {i : Nat} (hi : i < n) : w.cell? ⟨b, i, none⟩ = some (f i) := by
  obtain ⟨c, hb, _, hc⟩ := h
  simp [World.cell?, hb, hc i hi]
theorem frozen (h : SecsIs w b t n f) (i : Nat) : w.frozen? ⟨b, i, none⟩ = false := by
  obtain ⟨c, hb, _, _⟩ := h
  simp [World.frozen?, hb]
theorem lt (h : SecsIs w b t n f) : b < w.heap.size := by
  obtain ⟨c, hb, _, _⟩ := h
  exact (Array.getElem?_eq_some_iff.1 hb).1
theorem congr (h : SecsIs w b t n f) (e : ∀ i, i < n → f i = g i) : SecsIs w b t n g := by
  obtain ⟨c, hb, hn, hc⟩ := h
  exact ⟨c, hb, hn, fun i hi => by rw [hc i hi, e i hi]⟩
theorem of_block {w' : World} (h : SecsIs w b t n f) (e : w'.heap[b]? = w.heap[b]?) : SecsIs w' b t n f := by
  obtain ⟨c, hb, hn, hc⟩ := h
  exact ⟨c, e.trans hb, hn, hc⟩
theorem set (h : SecsIs w b t n f) (i : Nat) (v : Value) : SecsIs (w.setCell ⟨b, i, none⟩ v) b t n (fun j => if j = i then v else f j) := by
  obtain ⟨c, hb, hn, hc⟩ := h
  refine ⟨c.setIfInBounds i v, ?_, by simpa using hn, fun j hj => ?_⟩
  · simp [World.setCell, Array.getElem?_modify, hb]
  · rw [Array.getElem?_setIfInBounds]
    by_cases e : j = i
    · subst e
      rw [if_pos rfl, if_pos (by omega)]
      exact congrArg some (if_pos rfl).symm
    · rw [if_neg (fun h => e h.symm), hc j hj]
      exact congrArg some (if_neg e).symm
theorem setOther (h : SecsIs w b t n f) {a : Addr} (ha : b ≠ a.block) (v : Value) : SecsIs (w.setCell a v) b t n f := by
  refine h.of_block ?_
  simp only [World.setCell]
  rw [Array.getElem?_modify, if_neg (fun e => ha e.symm)]
end SecsIs
theorem secsIs_setCells {b : Nat} {t : TypeId} {n : Nat} : ∀ (vs : List Value) (o : Nat) (w : World) (f : Nat → Value), SecsIs w b t n f → SecsIs (w.setCells b o vs) b t n (fun i => if o ≤ i ∧ i < o + vs.length then vs[i - o]?.getD default else f i)
  | [], o, w, f, h => h.congr fun i _ => by rw [if_neg (by simp only [List.length_nil]; omega)]
  | v :: r, o, w, f, h => (secsIs_setCells r (o + 1) _ _ (h.set o v)).congr fun i _ => by
    simp only [List.length_cons]
    by_cases e : i = o
    · subst e
      rw [if_neg (by omega), if_pos rfl, if_pos (by omega), Nat.sub_self]
      rfl
    · by_cases q : o + 1 ≤ i ∧ i < o + 1 + r.length
      · rw [if_pos q, if_pos (by omega), show i - o = (i - (o + 1)) + 1 by omega, List.getElem?_cons_succ]
      · rw [if_neg q, if_neg (show ¬ (o ≤ i ∧ i < o + (r.length + 1)) by omega)]
        exact if_neg e
structure Ph where
  B : Nat
  G : Nat
  V : Value
  m : Nat → Value
  c : Nat
def secV (d : Dev) (m : Nat → Value) (a j : Nat) : Value :=
  if j < 256 then .int .u8 (d.has a j : Int) else if j = 256 then .bool (d.lost a) else if j = 257 then .int .i64 (d.drops a : Int) else m a
def wtC (x : Wt) : List Value := .int .i64 (x.pl : Int) :: bytesL 256 x.z
def wtsL (W : List Wt) : List Value := W.flatMap wtC
theorem wtC_len (x : Wt) : (wtC x).length = 257 := by unfold wtC; rw [List.length_cons, bytesL_len]
theorem wtsL_snoc (W : List Wt) (x : Wt) : wtsL (W ++ [x]) = wtsL W ++ wtC x := by unfold wtsL; simp
theorem wtsL_get : ∀ {W : List Wt} {i j : Nat} {x : Wt}, W[i]? = some x → j < 257 → (wtsL W)[i * 257 + j]? = (wtC x)[j]?
  | y :: r, 0, j, x, h, hj => by
    rw [List.getElem?_cons_zero, Option.some.injEq] at h
    subst h
    unfold wtsL
    rw [List.flatMap_cons, Nat.zero_mul, Nat.zero_add, List.getElem?_append_left (by rw [wtC_len]; exact hj)]
  | y :: r, i + 1, j, x, h, hj => by
    rw [List.getElem?_cons_succ] at h
    have := wtsL_get h hj
    unfold wtsL at this ⊢
    rw [List.flatMap_cons, List.getElem?_append_right (by rw [wtC_len]; omega), wtC_len, show (i + 1) * 257 + j - 257 = i * 257 + j by omega]
    exact this
theorem wtC_one (x : Wt) : ∀ u ∈ wtC x, u.oneCell' = true := fun u hu => by
  rcases List.mem_cons.1 hu with rfl | hu
  · rfl
  · exact bytesL_one u hu
theorem wtC_zero (x : Wt) : (wtC x)[0]? = some (.int .i64 (x.pl : Int)) := rfl
theorem wtC_succ (x : Wt) {j : Nat} (h : j < 256) : (wtC x)[j + 1]? = some (.int .u8 (x.z j : Int)) := by unfold wtC; rw [List.getElem?_cons_succ, bytesL_get h]
def MissIs (w : World) (v : Value) (l : List Nat) : Prop :=
  (v = .slice none 0 0 ∧ l = []) ∨ ∃ b o cap c, v = .slice (some ⟨b, o, none⟩) l.length cap ∧ l.length ≤ cap ∧ w.heap[b]? = some (.cells c 3 (0, 0)) ∧ o + cap ≤ c.size ∧ cap ≤ 9223372036854775807 ∧ ∀ i x : Nat, l[i]? = some x → c[o + i]? = some (.int .i64 (x : Int))
theorem MissIs.at {w : World} {v : Value} {l : List Nat} (h : MissIs w v l) {i : Nat} (hi : v.ownBlock = some i) : ∃ c, w.heap[i]? = some (.cells c 3 (0, 0)) := by
  rcases h with ⟨rfl, _⟩ | ⟨b, o, cap, c, rfl, _, hc, _⟩
  · cases hi
  · injection hi with hi
    subst hi
    exact ⟨c, hc⟩
theorem MissIs.of {w w' : World} {v : Value} {l : List Nat} (h : MissIs w v l) (k : ∀ i, v.ownBlock = some i → w'.heap[i]? = w.heap[i]?) : MissIs w' v l := by
  rcases h with h | ⟨b, o, cap, c, rfl, h1, hc, h2⟩
  · exact Or.inl h
  · exact Or.inr ⟨b, o, cap, c, rfl, h1, (k b rfl).trans hc, h2⟩
def devC (p : Ph) (d : Dev) : Array Value := #[.slice (some ⟨p.G, 0, none⟩) d.n p.c, p.V, .bool d.dead, .bool d.armed, .int .i64 d.left, .int .i64 (d.ops : Int)]
structure DevIs (base : Nat) (w : World) (p : Ph) (d : Dev) : Prop where
  blk : w.heap[p.B]? = some (.cells (devC p d) 118 (0, 0))
  sec : SecsIs w p.G 160 (d.n * 259) (fun i => secV d p.m (i / 259) (i % 259))
  wts : w.ownsRow base 121 257 p.V d.W.length (wtsL d.W)
  ms : ∀ a, a < d.n → MissIs w (p.m a) (d.miss a)
  inj : ∀ a b, a < d.n → b < d.n → ∀ i, (p.m a).ownBlock = some i → (p.m b).ownBlock = some i → a = b
  lowB : base ≤ p.B
  lowG : base ≤ p.G
  lowM : ∀ a, a < d.n → ∀ i, (p.m a).ownBlock = some i → base ≤ i
  byt : ∀ a c, a < d.n → c < 256 → d.has a c < 256
  wok : ∀ x ∈ d.W, x.pl < d.n ∧ Bytes 256 x.z
  mok : ∀ a, a < d.n → ∀ x ∈ d.miss a, x < d.n
  nn : 1 ≤ d.n ∧ d.n ≤ 4096
  lf : -9223372036854775808 ≤ d.left ∧ d.left ≤ 9223372036854775807
def Foot (p : Ph) (d : Dev) (i : Nat) : Prop := i = p.B ∨ i = p.G ∨ p.V.ownBlock = some i ∨ ∃ a, a < d.n ∧ (p.m a).ownBlock = some i
def DPost (base : Nat) (p : Ph) (d d' : Dev) (r : Value) (w : World) (e : Ending) (w' : World) : Prop :=
  e = .returned r ∧ ∃ p', p'.B = p.B ∧ DevIs base w' p' d' ∧ (∀ i, Foot p' d' i → Foot p d i ∨ w.heap.size ≤ i) ∧ Ch (Foot p d) w w'
section
variable {base : Nat} {w w' : World} {p : Ph} {d : Dev}
theorem DevIs.foot (h : DevIs base w p d) {i : Nat} (hi : Foot p d i) : base ≤ i ∧ i < w.heap.size := by
  rcases hi with rfl | rfl | hi | ⟨a, ha, hi⟩
  · exact ⟨h.lowB, blk_lt h.blk⟩
  · exact ⟨h.lowG, h.sec.lt⟩
  · obtain ⟨hb, c, hc⟩ := own_at h.wts hi
    exact ⟨hb, blk_lt hc⟩
  · obtain ⟨c, hc⟩ := (h.ms a ha).at hi
    exact ⟨h.lowM a ha i hi, blk_lt hc⟩
theorem DevIs.ch {S : Nat → Prop} (h : DevIs base w p d) (k : Ch S w w') (hS : ∀ i, Foot p d i → ¬ S i) : DevIs base w' p d := by
  have e : ∀ i, Foot p d i → w'.heap[i]? = w.heap[i]? := fun i hi => k.block i (h.foot hi).2 (hS i hi)
  exact ⟨(e _ (Or.inl rfl)).trans h.blk, h.sec.of_block (e _ (Or.inr (Or.inl rfl))), own_of h.wts (fun i hi => e i (Or.inr (Or.inr (Or.inl hi)))),
    fun a ha => (h.ms a ha).of (fun i hi => e i (Or.inr (Or.inr (Or.inr ⟨a, ha, hi⟩)))), h.inj, h.lowB, h.lowG, h.lowM, h.byt, h.wok, h.mok, h.nn, h.lf⟩
theorem DevIs.gr (h : DevIs base w p d) (k : Ch (fun _ => False) w w') : DevIs base w' p d := h.ch k (fun _ _ f => f)
theorem DevIs.BG (h : DevIs base w p d) : p.B ≠ p.G := by
  obtain ⟨c, hc, _⟩ := h.sec
  exact cells_ne h.blk hc (by decide)
theorem DevIs.BV (h : DevIs base w p d) : p.V.ownBlock ≠ some p.B := fun e => by
  obtain ⟨_, c, hc⟩ := own_at h.wts e
  exact cells_ne h.blk hc (by decide) rfl
theorem DevIs.GV (h : DevIs base w p d) : p.V.ownBlock ≠ some p.G := fun e => by
  obtain ⟨_, c, hc⟩ := own_at h.wts e
  obtain ⟨c2, hc2, _⟩ := h.sec
  exact cells_ne hc2 hc (by decide) rfl
theorem DevIs.BM (h : DevIs base w p d) {a : Nat} (ha : a < d.n) : (p.m a).ownBlock ≠ some p.B := fun e => by
  obtain ⟨c, hc⟩ := (h.ms a ha).at e
  exact cells_ne h.blk hc (by decide) rfl
theorem DevIs.GM (h : DevIs base w p d) {a : Nat} (ha : a < d.n) : (p.m a).ownBlock ≠ some p.G := fun e => by
  obtain ⟨c, hc⟩ := (h.ms a ha).at e
  obtain ⟨c2, hc2, _⟩ := h.sec
  exact cells_ne hc2 hc (by decide) rfl
theorem DevIs.VM (h : DevIs base w p d) {a i : Nat} (ha : a < d.n) (hi : p.V.ownBlock = some i) : (p.m a).ownBlock ≠ some i := fun e => by
  obtain ⟨c, hc⟩ := (h.ms a ha).at e
  obtain ⟨_, c2, hc2⟩ := own_at h.wts hi
  exact cells_ne hc2 hc (by decide) rfl
theorem DevIs.cellB (h : DevIs base w p d) (i : Nat) : w.cell? ⟨p.B, i, none⟩ = (devC p d)[i]? := blk_cell h.blk
theorem DevIs.frB (h : DevIs base w p d) (i : Nat) : w.frozen? ⟨p.B, i, none⟩ = false := blk_frozen h.blk
theorem DevIs.frG (h : DevIs base w p d) (i : Nat) : w.frozen? ⟨p.G, i, none⟩ = false := h.sec.frozen i
theorem DevIs.cellG (h : DevIs base w p d) {a j : Nat} (ha : a < d.n) (hj : j < 259) : w.cell? ⟨p.G, a * 259 + j, none⟩ = some (secV d p.m a j) := by
  have := h.sec.cell (i := a * 259 + j) (by have := Nat.mul_le_mul_right 259 (show a + 1 ≤ d.n from ha); omega)
  rw [show (a * 259 + j) / 259 = a by omega, show (a * 259 + j) % 259 = j by omega] at this
  exact this
theorem DevIs.turn {d' : Dev} (h : DevIs base w p d) (k : Ch (fun i => i = p.B ∨ i = p.G) w w') (hb : w'.heap[p.B]? = some (.cells (devC p d') 118 (0, 0)))
    (hs : SecsIs w' p.G 160 (d.n * 259) (fun i => secV d' p.m (i / 259) (i % 259))) (en : d'.n = d.n) (eW : d'.W = d.W) (em : d'.miss = d.miss) (hby : ∀ a c, a < d.n → c < 256 → d'.has a c < 256)
    (hlf : -9223372036854775808 ≤ d'.left ∧ d'.left ≤ 9223372036854775807) : DevIs base w' p d' := by
  have e : ∀ i, Foot p d i → i ≠ p.B → i ≠ p.G → w'.heap[i]? = w.heap[i]? := fun i hi h1 h2 => k.block i (h.foot hi).2 (fun q => q.elim h1 h2)
  refine ⟨hb, by rw [en]; exact hs, ?_, ?_, ?_, h.lowB, h.lowG, ?_, ?_, ?_, ?_, by rw [en]; exact h.nn, hlf⟩
  · rw [eW]
    exact own_of h.wts (fun i hi => e i (Or.inr (Or.inr (Or.inl hi))) (fun q => h.BV (q ▸ hi)) (fun q => h.GV (q ▸ hi)))
  · rw [en, em]
    exact fun a ha => (h.ms a ha).of (fun i hi => e i (Or.inr (Or.inr (Or.inr ⟨a, ha, hi⟩))) (fun q => h.BM ha (q ▸ hi)) (fun q => h.GM ha (q ▸ hi)))
  · rw [en]; exact h.inj
  · rw [en]; exact h.lowM
  · rw [en]; exact hby
  · rw [en, eW]; exact h.wok
  · rw [en, em]; exact h.mok
theorem DPost.turned {d' : Dev} {r : Value} (h : DevIs base w' p d') (en : d'.n = d.n) (k : Ch (Foot p d) w w') : DPost base p d d' r w (.returned r) w' :=
  ⟨rfl, p, rfl, h, fun i hi => Or.inl (by unfold Foot at hi ⊢; rwa [en] at hi), k⟩
end
end Go.Proofs.YteleknojohnlbaaGreat
namespace Go.Proofs.YteleknojohnlbaaGreat
open Go.RowKit
set_option linter.unusedVariables false
set_option maxRecDepth 100000
theorem rowIs_rowV {w : World} {b k : Nat} {z : Nat → Nat} (h : w.rowIs b /-t-/5 k (fun i => .int .u8 (z i : Int))) (hk : k ≤ 65536) (hz : Bytes k z) : RowV w (.slice (some ⟨b, 0, none⟩) k k) k z :=
  ⟨_, _, rfl, by omega, fun _ => ⟨b, 0, rfl, fun c hc => ⟨by rw [Nat.zero_add]; exact h.cell hc, hz c hc⟩⟩⟩
def dev0 (n : Nat) : Dev := { n := n, has := fun _ _ => 0, lost := fun _ => false, drops := fun _ => 0, miss := fun _ => [], W := [], dead := false, armed := false, left := 0, ops := 0 }
def sec0 : Array Value := (bytesL 256 (fun _ => 0)).toArray ++ #[.bool false, .int .i64 0, .slice none 0 0]
theorem info_sector : (Tryz.prog.info? 160).map (fun i => (i.zero, i.size, i.bytes)) = some (some (.agg sec0), 259, 296) := by kernel_rfl
theorem sec0_get {j : Nat} (h : j < 259) (d : Dev) (m : Nat → Value) (a : Nat) (h1 : d.has a j = 0) (h2 : d.lost a = false) (h3 : d.drops a = 0) (h4 : m a = .slice none 0 0) : sec0[j]? = some (secV d m a j) := by
  unfold sec0 secV
  by_cases q : j < 256
  · rw [Array.getElem?_append_left (by simpa [bytesL_len] using q), if_pos q, h1]
    have := bytesL_get (z := fun _ => 0) q
    simpa using this
  · rw [Array.getElem?_append_right (by simp [bytesL_len]; omega), if_neg q]
    rw [show ((bytesL 256 fun _ => 0).toArray).size = 256 by simp [bytesL_len]]
    by_cases q1 : j = 256
    · subst q1; rw [if_pos rfl, h2]; rfl
    · by_cases q2 : j = 257
      · subst q2; rw [if_neg q1, if_pos rfl, h3]; rfl
      · obtain rfl : j = 258 := by omega
        rw [if_neg q1, if_neg q2, h4]; rfl
theorem underlying_sectors : Tryz.prog.underlying 115 = some (.slice 160) := by kernel_rfl
theorem made_sec (w : World) (n m : Nat) (hm : m = n * 259) : (w.alloc (.cells (madeCells sec0 m) 160)).rowIs w.heap.size 160 (n * 259) (fun i => secV (dev0 n) (fun _ => .slice none 0 0) (i / 259) (i % 259)) := by
  subst hm
  have hs : sec0.size = 259 := by unfold sec0; simp [bytesL_len]
  have := World.rowIs_alloc w (madeCells sec0 (n * 259)) 160 (fun i => secV (dev0 n) (fun _ => .slice none 0 0) (i / 259) (i % 259)) fun i hi => by
    rw [size_madeCells] at hi
    have hj : i % 259 < 259 := Nat.mod_lt _ (by omega)
    unfold madeCells
    rw [hs]
    have h2 := sec0_get hj (dev0 n) (fun _ => .slice none 0 0) (i / 259) rfl rfl rfl rfl
    simp [hi]
    rw [getElem!_def, h2]
  rwa [size_madeCells] at this
set_option maxHeartbeats 400000 in
theorem new_any (n : Nat) (w : World) (h : 1 ≤ n) (h2 : n ≤ 4096) : Calls Tryz.prog 37 #[.int .i64 (n : Int)] w fun e w' => ∃ p, e = .returned (.tuple #[.pointer (some ⟨p.B, 0, none⟩), .int .i64 0]) ∧ DevIs w.heap.size w' p (dev0 n) ∧ Ch (fun _ => False) w w' := by
  have hmk : ∀ w : World, (Instr.makeSlice 115 (.int .i64 (n : Int)) (.int .i64 (n : Int))).run Tryz.prog w = .ok (.slice (some ⟨w.heap.size, 0, none⟩) n n) (w.alloc (.cells (madeCells sec0 (n * 259)) 160)) := fun w => by
    obtain ⟨i0, hi, hz0, hz1, hz2⟩ := info_parts info_sector
    have := run_make (P := Tryz.prog) w 115 160 i0 _ underlying_sectors hi hz0 .i64 .i64 (n : Int) (n : Int) (by omega) (by omega) (by rw [hz2]; omega) (by omega)
    rw [hz1] at this
    exact this
  have HR := Lib.hid (made_sec w n (n * 259) rfl)
  have HC := Lib.hid ((Ch.refl (fun _ => False) w).alloc (madeCells sec0 (n * 259)) 160)
  obtain ⟨B, hB⟩ : ∃ B, B = w.heap.size := ⟨_, rfl⟩
  obtain ⟨w1, hw1⟩ : ∃ w1, w1 = w.alloc (.cells (madeCells sec0 (n * 259)) 160) := ⟨_, rfl⟩
  have HS := Lib.hid (show w1.heap.size = w.heap.size + 1 by rw [hw1]; simp)
  rw [← hB, ← hw1] at HR
  rw [← hw1] at HC
  have hmk1 := hmk w
  rw [← hB, ← hw1] at hmk1
  have HB := Lib.hid hB
  clear hmk hB hw1
  go_enter Tryz.func37, Tryz.ntmps37
  go_wp2
  go_ret2
  refine ⟨⟨w1.heap.size, B, .slice none 0 0, fun _ => .slice none 0 0, n⟩, rfl, ?_, HC.out.alloc _ _⟩
  refine ⟨heap_alloc_new _ _, SecsIs.of_row (HR.out.alloc _), World.ownsRow_nil _ _ _ _, fun a _ => Or.inl ⟨rfl, rfl⟩, fun a b _ _ i hi => (by cases hi), (by show w.heap.size ≤ w1.heap.size; rw [HS.out]; omega), (by show w.heap.size ≤ B; rw [HB.out]; exact Nat.le_refl _), fun a _ i hi => (by cases hi), fun a c _ _ => (by decide : 0 < 256), fun x hx => (by cases hx), fun a _ x hx => (by cases hx), ⟨h, h2⟩, ⟨(by decide : (-9223372036854775808 : Int) ≤ 0), (by decide : (0 : Int) ≤ 9223372036854775807)⟩⟩
set_option maxHeartbeats 400000 in
theorem dead_any (base : Nat) (p : Ph) (d : Dev) (w : World) (h : DevIs base w p d) : Calls Tryz.prog 101 #[.pointer (some ⟨p.B, 0, none⟩)] w fun e w' => e = .returned (.bool d.dead) ∧ w = w' := by
  have c2 : w.cell? ⟨p.B, 2, none⟩ = some (.bool d.dead) := h.cellB 2
  obtain ⟨B, G, V, m, cG⟩ := p
  clear h
  go_enter Tryz.func101, Tryz.ntmps101
  go_wp2
  go_ret
  exact ⟨rfl, rfl⟩
set_option maxHeartbeats 400000 in
theorem len_any (base : Nat) (p : Ph) (d : Dev) (w : World) (h : DevIs base w p d) : Calls Tryz.prog 102 #[.pointer (some ⟨p.B, 0, none⟩)] w fun e w' => e = .returned (.int .i64 (d.n : Int)) ∧ w = w' := by
  have c0 : w.cell? ⟨p.B, 0, none⟩ = some (.slice (some ⟨p.G, 0, none⟩) d.n p.c) := h.cellB 0
  obtain ⟨B, G, V, m, cG⟩ := p
  clear h
  go_enter Tryz.func102, Tryz.ntmps102
  go_wp2
  go_ret
  exact ⟨rfl, rfl⟩
def hasB (d : Dev) (a : Int) : Bool := decide (0 ≤ a ∧ a < d.n)
set_option maxHeartbeats 400000 in
theorem dhas_any (base : Nat) (p : Ph) (d : Dev) (a : Int) (w : World) (h : DevIs base w p d) : Calls Tryz.prog 62 #[.pointer (some ⟨p.B, 0, none⟩), .int .i64 a] w fun e w' => e = .returned (.bool (hasB d a)) ∧ w = w' := by
  have HL := Lib.hid (len_any base p d w h)
  obtain ⟨B, G, V, m, cG⟩ := p
  clear h
  by_cases h1 : 0 ≤ a
  · by_cases h2 : a < d.n
    · have HS := Lib.hid (show hasB d a = true from decide_eq_true ⟨h1, h2⟩)
      go_enter Tryz.func62, Tryz.ntmps62
      go_wp2_with fail
      refine HL.out.mono ?_
      rintro e w1 ⟨rfl, rfl⟩
      go_wp2
      go_ret
      exact ⟨ret_bool HS.out.symm, rfl⟩
    · have HS := Lib.hid (show hasB d a = false from decide_eq_false fun q => h2 q.2)
      go_enter Tryz.func62, Tryz.ntmps62
      go_wp2_with fail
      refine HL.out.mono ?_
      rintro e w1 ⟨rfl, rfl⟩
      go_wp2
      go_ret
      exact ⟨ret_bool (by rw [HS.out]; exact decide_eq_false (by omega)), rfl⟩
  · have HS := Lib.hid (show hasB d a = false from decide_eq_false fun q => h1 q.1)
    go_enter Tryz.func62, Tryz.ntmps62
    go_wp2
    go_ret
    exact ⟨ret_bool HS.out.symm, rfl⟩
def openE (d : Dev) (a : Int) : Int := if d.dead then 21 else if hasB d a then 0 else 3
set_option maxHeartbeats 400000 in
theorem open_any (base : Nat) (p : Ph) (d : Dev) (a : Int) (w : World) (h : DevIs base w p d) : Calls Tryz.prog 98 #[.pointer (some ⟨p.B, 0, none⟩), .int .i64 a] w fun e w' => e = .returned (.int .i64 (openE d a)) ∧ w = w' := by
  have HD := Lib.hid (dead_any base p d w h)
  have HH := Lib.hid (dhas_any base p d a w h)
  obtain ⟨B, G, V, m, cG⟩ := p
  clear h
  cases hd : d.dead
  · rw [hd] at HD
    cases hh : hasB d a
    · rw [hh] at HH
      have HS := Lib.hid (show openE d a = 3 by unfold openE; rw [hd, hh]; rfl)
      clear hd hh
      go_enter Tryz.func98, Tryz.ntmps98
      go_wp2_with fail
      refine HD.out.mono ?_
      rintro e w1 ⟨rfl, rfl⟩
      go_wp2_with fail
      refine HH.out.mono ?_
      rintro e w1 ⟨rfl, rfl⟩
      go_wp2
      go_ret
      exact ⟨ret_int HS.out.symm, rfl⟩
    · rw [hh] at HH
      have HS := Lib.hid (show openE d a = 0 by unfold openE; rw [hd, hh]; rfl)
      clear hd hh
      go_enter Tryz.func98, Tryz.ntmps98
      go_wp2_with fail
      refine HD.out.mono ?_
      rintro e w1 ⟨rfl, rfl⟩
      go_wp2_with fail
      refine HH.out.mono ?_
      rintro e w1 ⟨rfl, rfl⟩
      go_wp2
      go_ret
      exact ⟨ret_int HS.out.symm, rfl⟩
  · rw [hd] at HD
    have HS := Lib.hid (show openE d a = 21 by unfold openE; rw [hd]; rfl)
    clear hd
    go_enter Tryz.func98, Tryz.ntmps98
    go_wp2_with fail
    refine HD.out.mono ?_
    rintro e w1 ⟨rfl, rfl⟩
    go_wp2
    go_ret
    exact ⟨ret_int HS.out.symm, rfl⟩
section
variable {base : Nat} {w : World} {p : Ph} {d : Dev}
theorem chB (h : DevIs base w p d) (i : Nat) (v : Value) : Ch (fun j => j = p.B ∨ j = p.G) w (w.setCell ⟨p.B, i, none⟩ v) := Ch.setCell (S := fun j => j = p.B ∨ j = p.G) (Ch.refl _ w) (p := ⟨p.B, i, none⟩) (Or.inl (Or.inl rfl)) v
theorem chBF {w' : World} (h : Ch (fun j => j = p.B ∨ j = p.G) w w') : Ch (Foot p d) w w' := h.mono fun i _ hi => hi.elim (fun e => Or.inl e) (fun e => Or.inr (Or.inl e))
theorem secB (h : DevIs base w p d) (i : Nat) (v : Value) : SecsIs (w.setCell ⟨p.B, i, none⟩ v) p.G 160 (d.n * 259) (fun i => secV d p.m (i / 259) (i % 259)) := h.sec.setOther (a := ⟨p.B, i, none⟩) h.BG.symm v
theorem DevIs.setDead (h : DevIs base w p d) (b : Bool) : DevIs base (w.setCell ⟨p.B, 2, none⟩ (.bool b)) p { d with dead := b } := h.turn (d' := { d with dead := b }) (chB h 2 _) (blk_set h.blk _) (secB h 2 _) rfl rfl rfl h.byt h.lf
theorem DevIs.setArmed (h : DevIs base w p d) (b : Bool) : DevIs base (w.setCell ⟨p.B, 3, none⟩ (.bool b)) p { d with armed := b } := h.turn (d' := { d with armed := b }) (chB h 3 _) (blk_set h.blk _) (secB h 3 _) rfl rfl rfl h.byt h.lf
theorem DevIs.setLeft (h : DevIs base w p d) (x : Int) (hx : -9223372036854775808 ≤ x ∧ x ≤ 9223372036854775807) : DevIs base (w.setCell ⟨p.B, 4, none⟩ (.int .i64 x)) p { d with left := x } := h.turn (d' := { d with left := x }) (chB h 4 _) (blk_set h.blk _) (secB h 4 _) rfl rfl rfl h.byt hx
theorem DevIs.setOps (h : DevIs base w p d) (x : Nat) : DevIs base (w.setCell ⟨p.B, 5, none⟩ (.int .i64 (x : Int))) p { d with ops := x } := h.turn (d' := { d with ops := x }) (chB h 5 _) (blk_set h.blk _) (secB h 5 _) rfl rfl rfl h.byt h.lf
end
def diesB (d : Dev) : Bool := d.armed && decide (d.left ≤ 0)
def diesD (d : Dev) : Dev := if d.armed = true then if 0 < d.left then { d with left := d.left - 1 } else { d with dead := true } else d
set_option maxHeartbeats 400000 in
theorem dies_any (base : Nat) (p : Ph) (d : Dev) (w : World) (h : DevIs base w p d) : Calls Tryz.prog 99 #[.pointer (some ⟨p.B, 0, none⟩)] w fun e w' => e = .returned (.bool (diesB d)) ∧ DevIs base w' p (diesD d) ∧ Ch (Foot p d) w w' := by
  have c2 : w.cell? ⟨p.B, 2, none⟩ = some (.bool d.dead) := h.cellB 2
  have c3 : w.cell? ⟨p.B, 3, none⟩ = some (.bool d.armed) := h.cellB 3
  have c4 : w.cell? ⟨p.B, 4, none⟩ = some (.int .i64 d.left) := h.cellB 4
  have f2 := h.frB 2
  have f4 := h.frB 4
  have HH := Lib.hid h
  have hl := h.lf
  obtain ⟨B, G, V, m, cG⟩ := p
  clear h
  cases ha : d.armed
  · rw [ha] at c3
    have HS := Lib.hid (show diesB d = false ∧ diesD d = d by unfold diesB diesD; rw [ha]; exact ⟨rfl, rfl⟩)
    clear ha
    go_enter Tryz.func99, Tryz.ntmps99
    go_wp2
    go_ret
    exact ⟨ret_bool HS.out.1.symm, by rw [HS.out.2]; exact HH.out, Ch.refl _ _⟩
  · rw [ha] at c3
    by_cases hq : 0 < d.left
    · have HS := Lib.hid (show diesB d = false ∧ diesD d = { d with left := d.left - 1 } by
        unfold diesB diesD
        rw [ha]
        exact ⟨by simp; omega, by simp [hq]⟩)
      have HD := Lib.hid (HH.out.setLeft (d.left - 1) (by omega))
      have HC := Lib.hid (chBF (d := d) (chB HH.out 4 (.int .i64 (d.left - 1))))
      clear ha
      go_enter Tryz.func99, Tryz.ntmps99
      go_wp2
      go_ret
      exact ⟨ret_bool HS.out.1.symm, by rw [HS.out.2]; exact HD.out, HC.out⟩
    · have HS := Lib.hid (show diesB d = true ∧ diesD d = { d with dead := true } by
        unfold diesB diesD
        rw [ha]
        exact ⟨by simp; omega, by simp [hq]⟩)
      have HD := Lib.hid (HH.out.setDead true)
      have HC := Lib.hid (chBF (d := d) (chB HH.out 2 (.bool true)))
      clear ha
      go_enter Tryz.func99, Tryz.ntmps99
      go_wp2
      go_ret
      exact ⟨ret_bool HS.out.1.symm, by rw [HS.out.2]; exact HD.out, HC.out⟩
def armD (d : Dev) (n : Int) : Dev := { d with armed := decide (0 ≤ n), left := n }
set_option maxHeartbeats 400000 in
theorem arm_any (base : Nat) (p : Ph) (d : Dev) (n : Int) (w : World) (h : DevIs base w p d) (hn : -9223372036854775808 ≤ n ∧ n ≤ 9223372036854775807) : Calls Tryz.prog 32 #[.pointer (some ⟨p.B, 0, none⟩), .int .i64 n] w (DPost base p d (armD d n) (.tuple #[]) w) := by
  have c3 : w.cell? ⟨p.B, 3, none⟩ = some (.bool d.armed) := h.cellB 3
  have c4 : w.cell? ⟨p.B, 4, none⟩ = some (.int .i64 d.left) := h.cellB 4
  have f3 := h.frB 3
  have f4 := h.frB 4
  have HD := Lib.hid ((h.setArmed (decide (0 ≤ n))).setLeft n hn)
  have HC := Lib.hid (chBF (d := d) ((chB h 3 (.bool (decide (0 ≤ n)))).trans (chB (h.setArmed (decide (0 ≤ n))) 4 (.int .i64 n))))
  obtain ⟨B, G, V, m, cG⟩ := p
  clear h
  by_cases hq : 0 ≤ n
  · rw [show decide (0 ≤ n) = true from decide_eq_true hq] at HD HC
    have HS := Lib.hid (show armD d n = { d with armed := true, left := n } by unfold armD; rw [decide_eq_true hq])
    go_enter Tryz.func32, Tryz.ntmps32
    go_wp2
    go_end0
    exact DPost.turned (by rw [HS.out]; exact HD.out) rfl HC.out
  · rw [show decide (0 ≤ n) = false from decide_eq_false hq] at HD HC
    have HS := Lib.hid (show armD d n = { d with armed := false, left := n } by unfold armD; rw [decide_eq_false hq])
    go_enter Tryz.func32, Tryz.ntmps32
    go_wp2
    go_end0
    exact DPost.turned (by rw [HS.out]; exact HD.out) rfl HC.out
end Go.Proofs.YteleknojohnlbaaGreat
