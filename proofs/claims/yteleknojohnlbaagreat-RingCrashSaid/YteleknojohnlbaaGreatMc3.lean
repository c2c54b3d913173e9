/-
  (*disk.Disk).finish, walked. (*disk.Disk).aim, walked. bytes.Clone, walked.
-/
import Derived.Test.YteleknojohnlbaaGreatMc2
import Derived.Test.YteleknojohnlbaaGreatMc1
import Derived.Lib.SliceRun
namespace Go.Proofs.YteleknojohnlbaaGreat
open Go.RowKit
set_option linter.unusedVariables false
set_option maxRecDepth 100000
theorem info_arr (z : Nat → Nat) : (Tryz.prog.info? 119).map (·.size) = some (bytesL 256 z).length := by rw [bytesL_len]; kernel_rfl
theorem under_arr : Tryz.prog.underlying 119 = some (.array 256 /-t-/5) := by kernel_rfl
theorem info_wt (x : Wt) : (Tryz.prog.info? 121).map (·.size) = some (wtC x).length := by rw [wtC_len]; kernel_rfl
theorem under_wt : ∃ d, Tryz.prog.underlying 121 = some d ∧ TypeDesc.isRow d = true := ⟨_, Tryz.underlying121, rfl⟩
def finD (d : Dev) (x : Wt) : Dev := { d with has := up d.has x.pl x.z, lost := up d.lost x.pl false }
theorem alloc_cell (w : World) (c : Array Value) (t : TypeId) (i : Nat) : (w.alloc (.cells c t)).cell? ⟨w.heap.size, i, none⟩ = c[i]? := blk_cell (heap_alloc_new w _)
theorem arr_there {w : World} {b o n : Nat} {c : Array Value} {t : TypeId} (h : w.heap[b]? = some (.cells c t (0, 0))) (hn : o + n ≤ c.size) : w.there b o n := fun j hj => by
  rw [blk_cell h]
  exact ⟨by simp; omega, blk_frozen h⟩
theorem setCells_ch (S : Nat → Prop) (b : Nat) (hb : S b) : ∀ (vs : List Value) (o : Nat) (w : World), Ch S w (w.setCells b o vs)
  | [], _, w => Ch.refl _ w
  | v :: r, o, w => ((Ch.refl S w).setCell (p := ⟨b, o, none⟩) (Or.inl hb) v).trans (setCells_ch S b hb r (o + 1) _)
theorem DevIs.finish {base : Nat} {w : World} {p : Ph} {d : Dev} (h : DevIs base w p d) (x : Wt) (hx : x.pl < d.n) (hz : Bytes 256 x.z) : DevIs base ((w.setCells p.G (x.pl * 259) (bytesL 256 x.z)).setCell ⟨p.G, x.pl * 259 + 256, none⟩ (.bool false)) p (finD d x) := by
  have hk : Ch (fun j => j = p.B ∨ j = p.G) w ((w.setCells p.G (x.pl * 259) (bytesL 256 x.z)).setCell ⟨p.G, x.pl * 259 + 256, none⟩ (.bool false)) := (setCells_ch _ p.G (Or.inr rfl) _ _ w).setCell (p := ⟨p.G, x.pl * 259 + 256, none⟩) (Or.inl (Or.inr rfl)) _
  have hk2 : Ch (fun j => j = p.G) w ((w.setCells p.G (x.pl * 259) (bytesL 256 x.z)).setCell ⟨p.G, x.pl * 259 + 256, none⟩ (.bool false)) := Ch.setCell (S := fun j => j = p.G) (setCells_ch (fun j => j = p.G) p.G rfl _ _ w) (p := ⟨p.G, x.pl * 259 + 256, none⟩) (Or.inl rfl) _
  refine h.turn (d' := finD d x) hk ((hk2.block _ (blk_lt h.blk) h.BG).trans h.blk) ?_ rfl rfl rfl ?_ h.lf
  · refine ((secsIs_setCells (bytesL 256 x.z) (x.pl * 259) w _ h.sec).set (x.pl * 259 + 256) (.bool false)).congr fun i hi => ?_
    have hlt := Nat.mod_lt i (show 0 < 259 by omega)
    have hdm := Nat.div_add_mod i 259
    rw [bytesL_len]
    by_cases q : i / 259 = x.pl
    · by_cases q1 : i % 259 < 256
      · rw [if_neg (by omega), if_pos (by omega), show i - x.pl * 259 = i % 259 by omega, bytesL_get q1]
        unfold secV
        rw [if_pos q1, q]
        show _ = Value.int .u8 (up d.has x.pl x.z x.pl (i % 259) : Int)
        rw [up_same]
        rfl
      · by_cases q2 : i % 259 = 256
        · rw [if_pos (by omega)]
          unfold secV
          rw [if_neg q1, if_pos q2, q]
          show _ = Value.bool (up d.lost x.pl false x.pl)
          rw [up_same]
        · rw [if_neg (by omega), if_neg (by omega)]
          unfold secV
          rw [if_neg q1, if_neg q2, if_neg q1, if_neg q2]
          rfl
    · rw [if_neg (by omega), if_neg (by omega)]
      unfold secV
      show _ = if i % 259 < 256 then Value.int .u8 (up d.has x.pl x.z (i / 259) (i % 259) : Int) else if i % 259 = 256 then .bool (up d.lost x.pl false (i / 259)) else _
      rw [up_other _ _ q, up_other _ _ q]
      rfl
  · intro a c ha hc
    show up d.has x.pl x.z a c < 256
    by_cases q : a = x.pl
    · rw [q, up_same]; exact hz c hc
    · rw [up_other _ _ q]; exact h.byt a c ha hc
set_option maxHeartbeats 800000 in
set_option maxRecDepth 100000 in
theorem finish_any (base : Nat) (p : Ph) (d : Dev) (x : Wt) (w : World) (h : DevIs base w p d) (hx : x.pl < d.n) (hz : Bytes 256 x.z) :
    Calls Tryz.prog 65 #[.pointer (some ⟨p.B, 0, none⟩), .agg (wtC x).toArray] w fun e w' => e = .returned (.tuple #[]) ∧ DevIs base w' p (finD d x) ∧ Ch (Foot p d) w w' := by
  obtain ⟨w1, hw1⟩ : ∃ w1, w1 = w.alloc (.cells (wtC x).toArray 121) := ⟨_, rfl⟩
  obtain ⟨H, hH⟩ : ∃ H, H = w.heap.size := ⟨_, rfl⟩
  have HC := Lib.hid (show Ch (Foot p d) w w1 by rw [hw1]; exact (Ch.refl _ w).alloc _ _)
  have h1 : DevIs base w1 p d := by rw [hw1]; exact h.gr ((Ch.refl _ w).alloc _ _)
  have c0 : w1.cell? ⟨p.B, 0, none⟩ = some (.slice (some ⟨p.G, 0, none⟩) d.n p.c) := h1.cellB 0
  have x0 : w1.cell? ⟨H, 0, none⟩ = some (.int .i64 (x.pl : Int)) := by rw [hw1, hH, alloc_cell]; simp [wtC_zero]
  have hrg : w1.rangeAt H 1 (bytesL 256 x.z) := fun j v hv => by
    have hj : j < 256 := by
      by_cases q : j < 256
      · exact q
      · rw [bytesL_none q] at hv; cases hv
    rw [hw1, hH, alloc_cell, Nat.add_comm, List.getElem?_toArray, wtC_succ x hj, ← hv, bytesL_get hj]
  have HL : Hid (∀ n, (loadVar 119 ⟨H, 1, none⟩).run Tryz.prog (w1.drewN n) = .ok (.agg (bytesL 256 x.z).toArray) (w1.drewN n)) := fun n => run_loadVar_mid (w1.drewN n) H 1 _ _ _ hrg under_arr rfl (info_arr x.z)
  obtain ⟨cs, hcs, hcz, _⟩ := h1.sec
  have hi259 : x.pl * 259 + 259 ≤ d.n * 259 := by have := Nat.mul_le_mul_right 259 (show x.pl + 1 ≤ d.n from hx); omega
  have HS : Hid (∀ n, (storeVar 119 ⟨p.G, x.pl * 259, none⟩ (.agg (bytesL 256 x.z).toArray)).run Tryz.prog (w1.drewN n) = .ok () ((w1.drewN n).setCells p.G (x.pl * 259) (bytesL 256 x.z))) := fun n => by
    have := run_storeVar_mid (P := Tryz.prog) (w1.drewN n) p.G (x.pl * 259) 119 (bytesL 256 x.z).toArray (arr_there (w := w1.drewN n) hcs (by simp [bytesL_len]; omega)) (by rw [List.size_toArray]; exact info_arr x.z) (all_oneCell_toArray bytesL_one)
    simpa using this
  have HD : Hid (∀ n, DevIs base (((w1.drewN n).setCells p.G (x.pl * 259) (bytesL 256 x.z)).setCell ⟨p.G, x.pl * 259 + 256, none⟩ (.bool false)) p (finD d x)) := fun n => (h1.gr ((Ch.refl _ w1).drewN n)).finish x hx hz
  have HC2 : Hid (∀ n, Ch (Foot p d) w (((w1.drewN n).setCells p.G (x.pl * 259) (bytesL 256 x.z)).setCell ⟨p.G, x.pl * 259 + 256, none⟩ (.bool false))) := fun n =>
    ((HC.out.drewN n).trans (setCells_ch _ p.G (Or.inr (Or.inl rfl)) _ _ _)).setCell (p := ⟨p.G, x.pl * 259 + 256, none⟩) (Or.inl (Or.inr (Or.inl rfl))) _
  have HF : Hid (∀ n, ((w1.drewN n).setCells p.G (x.pl * 259) (bytesL 256 x.z)).cell? ⟨p.G, x.pl * 259 + 256, none⟩ = some (.bool (d.lost x.pl)) ∧ ((w1.drewN n).setCells p.G (x.pl * 259) (bytesL 256 x.z)).frozen? ⟨p.G, x.pl * 259 + 256, none⟩ = false) := fun n => by
    rw [World.cell?_setCells_out _ _ _ _ _ (fun _ _ => Or.inr (by rw [bytesL_len]; exact Nat.le_refl _)), World.frozen?_setCells]
    exact ⟨h1.cellG hx (by omega : 256 < 259), h1.frG _⟩
  have i1 : (0 : Int) ≤ (x.pl : Int) := Int.natCast_nonneg _
  have i2 : (x.pl : Int) < (d.n : Int) := by omega
  have HW := Lib.hid hw1.symm
  have HN := Lib.hid hH.symm
  obtain ⟨B, G, V, m, cG⟩ := p
  clear h h1 hcs hcz hi259 hrg hw1 hH
  go_enter Tryz.func65, Tryz.ntmps65
  go_wp2_with ((with_reducible refine wpList_same ?_); refine wpList_boxing w w1 rfl _ (.tmp 1) rfl (wtC x).toArray H rfl HN.out HW.out ?_)
  go_quiet (fail)
  have c3 := (HF.out nq).1
  have f3 := (HF.out nq).2
  have HSn := Lib.hid (HS.out nq)
  have HDn := Lib.hid (HD.out nq)
  have HCn := Lib.hid (HC2.out nq)
  obtain ⟨w3, hw3⟩ : ∃ w3, w3 = (w1.drewN nq).setCells G (x.pl * 259) (bytesL 256 x.z) := ⟨_, rfl⟩
  change Hid (_ = Result.ok () ((w1.drewN nq).setCells G (x.pl * 259) (bytesL 256 x.z))) at HSn
  change Hid (DevIs base (((w1.drewN nq).setCells G (x.pl * 259) (bytesL 256 x.z)).setCell _ _) _ _) at HDn
  change Hid (Ch _ w (((w1.drewN nq).setCells G (x.pl * 259) (bytesL 256 x.z)).setCell _ _)) at HCn
  change ((w1.drewN nq).setCells G (x.pl * 259) (bytesL 256 x.z)).cell? ⟨G, x.pl * 259 + 256, none⟩ = _ at c3
  change ((w1.drewN nq).setCells G (x.pl * 259) (bytesL 256 x.z)).frozen? ⟨G, x.pl * 259 + 256, none⟩ = _ at f3
  rw [← hw3] at HSn HDn HCn c3 f3
  clear hw3 HS HD HC2 HF
  go_wp2_with ((with_reducible refine wpList_same ?_); first | refine wpList_loading (w1.drewN nq) rfl _ (.tmp 14) rfl (.agg (bytesL 256 x.z).toArray) ⟨H, 1, none⟩ rfl (HL.out nq) ?_ | refine wpList_storing (w1.drewN nq) w3 rfl _ (.tmp 17) (.tmp 15) rfl (.agg (bytesL 256 x.z).toArray) ⟨G, x.pl * 259, none⟩ rfl rfl HSn.out ?_)
  go_end0
  exact ⟨rfl, HDn.out, HCn.out⟩
end Go.Proofs.YteleknojohnlbaaGreat
namespace Go.Proofs.YteleknojohnlbaaGreat
open Go.RowKit
set_option linter.unusedVariables false
set_option maxRecDepth 100000
section
variable {base : Nat} {w w' : World} {p : Ph} {d : Dev}
theorem sec_set (h : DevIs base w p d) {a j : Nat} (ha : a < d.n) (hj : j < 259) (v : Value) (d' : Dev) (m' : Nat → Value) (e1 : secV d' m' a j = v) (e2 : ∀ b c, c < 259 → ¬ (b = a ∧ c = j) → secV d' m' b c = secV d p.m b c) :
    SecsIs (w.setCell ⟨p.G, a * 259 + j, none⟩ v) p.G 160 (d.n * 259) (fun i => secV d' m' (i / 259) (i % 259)) := by
  refine (h.sec.set (a * 259 + j) v).congr fun i hi => ?_
  have hdm := Nat.div_add_mod i 259
  have hlt := Nat.mod_lt i (show 0 < 259 by omega)
  by_cases q : i = a * 259 + j
  · rw [if_pos q, show i / 259 = a by omega, show i % 259 = j by omega, e1]
  · rw [if_neg q, e2 _ _ hlt (fun k => q (by omega))]
theorem chG (w : World) (p : Ph) (i : Nat) (v : Value) : Ch (fun j => j = p.G) w (w.setCell ⟨p.G, i, none⟩ v) := Ch.setCell (S := fun j => j = p.G) (Ch.refl _ w) (p := ⟨p.G, i, none⟩) (Or.inl rfl) v
theorem chGF (h : Ch (fun j => j = p.G) w w') : Ch (Foot p d) w w' := h.mono fun i _ hi => Or.inr (Or.inl hi)
theorem DevIs.setDrops (h : DevIs base w p d) {a : Nat} (ha : a < d.n) (x : Nat) : DevIs base (w.setCell ⟨p.G, a * 259 + 257, none⟩ (.int .i64 (x : Int))) p { d with drops := up d.drops a x } := by
  have hk := chG w p (a * 259 + 257) (.int .i64 (x : Int))
  refine h.turn (d' := { d with drops := up d.drops a x }) (hk.mono fun _ _ e => Or.inr e) ((hk.block _ (blk_lt h.blk) h.BG).trans h.blk) (sec_set h ha (by omega) _ _ _ ?_ ?_) rfl rfl rfl h.byt h.lf
  · unfold secV
    rw [if_neg (by omega), if_neg (by omega), if_pos rfl]
    show Value.int .i64 ((up d.drops a x a : Nat) : Int) = _
    rw [up_same]
  · intro b c hc hn
    unfold secV
    by_cases q : c < 256
    · rw [if_pos q, if_pos q]
    · by_cases q2 : c = 256
      · rw [if_neg q, if_neg q, if_pos q2, if_pos q2]
      · by_cases q3 : c = 257
        · rw [if_neg q, if_neg q, if_neg q2, if_neg q2, if_pos q3, if_pos q3]
          show Value.int .i64 ((up d.drops a x b : Nat) : Int) = _
          rw [up_other _ _ (fun e => hn ⟨e, q3⟩)]
        · rw [if_neg q, if_neg q, if_neg q2, if_neg q2, if_neg q3, if_neg q3]
theorem DevIs.setLost (h : DevIs base w p d) {a : Nat} (ha : a < d.n) (x : Bool) : DevIs base (w.setCell ⟨p.G, a * 259 + 256, none⟩ (.bool x)) p { d with lost := up d.lost a x } := by
  have hk := chG w p (a * 259 + 256) (.bool x)
  refine h.turn (d' := { d with lost := up d.lost a x }) (hk.mono fun _ _ e => Or.inr e) ((hk.block _ (blk_lt h.blk) h.BG).trans h.blk) (sec_set h ha (by omega) _ _ _ ?_ ?_) rfl rfl rfl h.byt h.lf
  · unfold secV
    rw [if_neg (by omega), if_pos rfl]
    show Value.bool (up d.lost a x a) = _
    rw [up_same]
  · intro b c hc hn
    unfold secV
    by_cases q : c < 256
    · rw [if_pos q, if_pos q]
    · by_cases q2 : c = 256
      · rw [if_neg q, if_neg q, if_pos q2, if_pos q2]
        show Value.bool (up d.lost a x b) = _
        rw [up_other _ _ (fun e => hn ⟨e, q2⟩)]
      · rw [if_neg q, if_neg q, if_neg q2, if_neg q2]
theorem DevIs.turnM (h : DevIs base w p d) {a : Nat} (ha : a < d.n) {v : Value} {l : List Nat} (k : Ch (fun i => i = p.G ∨ (p.m a).ownBlock = some i) w w')
    (hs : SecsIs w' p.G 160 (d.n * 259) (fun i => secV d (up p.m a v) (i / 259) (i % 259))) (hv : MissIs w' v l) (ho : ∀ i, v.ownBlock = some i → (p.m a).ownBlock = some i ∨ w.heap.size ≤ i) (hl : ∀ x ∈ l, x < d.n) :
    DevIs base w' { p with m := up p.m a v } { d with miss := up d.miss a l } := by
  have hb : base ≤ w.heap.size := Nat.le_trans h.lowB (Nat.le_of_lt (blk_lt h.blk))
  have far : ∀ b, b < d.n → b ≠ a → ∀ i, (p.m b).ownBlock = some i → ¬ (p.m a).ownBlock = some i := fun b hbn hne i hi hi2 => hne (h.inj b a hbn ha i hi hi2)
  have old : ∀ b, b < d.n → ∀ i, (p.m b).ownBlock = some i → i < w.heap.size := fun b hbn i hi => (h.foot (Or.inr (Or.inr (Or.inr ⟨b, hbn, hi⟩)))).2
  refine ⟨(k.block _ (blk_lt h.blk) (fun e => e.elim h.BG (fun e => h.BM ha e))).trans h.blk, hs, own_of h.wts (fun i hi => k.block i (h.foot (Or.inr (Or.inr (Or.inl hi)))).2 (fun e => e.elim (fun q => h.GV (q ▸ hi)) (h.VM ha hi))), ?_, ?_, h.lowB, h.lowG, ?_, h.byt, h.wok, ?_, h.nn, h.lf⟩
  · intro b hbn
    show MissIs w' (up p.m a v b) (up d.miss a l b)
    by_cases q : b = a
    · rw [q, up_same, up_same]; exact hv
    · rw [up_other _ _ q, up_other _ _ q]
      exact (h.ms b hbn).of (fun i hi => k.block i (old b hbn i hi) (fun e => e.elim (fun e => h.GM hbn (e ▸ hi)) (far b hbn q i hi)))
  · intro b c hbn hcn i hi hi2
    change (up p.m a v b).ownBlock = some i at hi
    change (up p.m a v c).ownBlock = some i at hi2
    by_cases q : b = a
    · by_cases q2 : c = a
      · rw [q, q2]
      · rw [q, up_same] at hi
        rw [up_other _ _ q2] at hi2
        rcases ho i hi with e | e
        · exact (far c hcn q2 i hi2 e).elim
        · have := old c hcn i hi2; omega
    · by_cases q2 : c = a
      · rw [q2, up_same] at hi2
        rw [up_other _ _ q] at hi
        rcases ho i hi2 with e | e
        · exact (far b hbn q i hi e).elim
        · have := old b hbn i hi; omega
      · rw [up_other _ _ q] at hi
        rw [up_other _ _ q2] at hi2
        exact h.inj b c hbn hcn i hi hi2
  · intro b hbn i hi
    change (up p.m a v b).ownBlock = some i at hi
    by_cases q : b = a
    · rw [q, up_same] at hi
      rcases ho i hi with e | e
      · exact h.lowM a ha i e
      · omega
    · rw [up_other _ _ q] at hi
      exact h.lowM b hbn i hi
  · intro b hbn x hx
    change x ∈ up d.miss a l b at hx
    by_cases q : b = a
    · rw [q, up_same] at hx; exact hl x hx
    · rw [up_other _ _ q] at hx; exact h.mok b hbn x hx
theorem foot_turnM {a : Nat} (ha : a < d.n) {v : Value} {l : List Nat} (n : Nat) (ho : ∀ i, v.ownBlock = some i → (p.m a).ownBlock = some i ∨ n ≤ i) : ∀ i, Foot { p with m := up p.m a v } { d with miss := up d.miss a l } i → Foot p d i ∨ n ≤ i := by
  intro i hi
  rcases hi with hi | hi | hi | ⟨b, hbn, hi⟩
  · exact Or.inl (Or.inl hi)
  · exact Or.inl (Or.inr (Or.inl hi))
  · exact Or.inl (Or.inr (Or.inr (Or.inl hi)))
  · change (up p.m a v b).ownBlock = some i at hi
    by_cases q : b = a
    · rw [q, up_same] at hi
      rcases ho i hi with e | e
      · exact Or.inl (Or.inr (Or.inr (Or.inr ⟨a, ha, e⟩)))
      · exact Or.inr e
    · rw [up_other _ _ q] at hi
      exact Or.inl (Or.inr (Or.inr (Or.inr ⟨b, hbn, hi⟩)))
theorem sec_setM (h : DevIs base w p d) {a : Nat} (ha : a < d.n) (v : Value) : SecsIs (w.setCell ⟨p.G, a * 259 + 258, none⟩ v) p.G 160 (d.n * 259) (fun i => secV d (up p.m a v) (i / 259) (i % 259)) := by
  refine sec_set h ha (by omega) v d (up p.m a v) ?_ ?_
  · unfold secV
    rw [if_neg (by omega), if_neg (by omega), if_neg (by omega), up_same]
  · intro b c hc hn
    unfold secV
    by_cases q : c < 256
    · rw [if_pos q, if_pos q]
    · by_cases q2 : c = 256
      · rw [if_neg q, if_neg q, if_pos q2, if_pos q2]
      · by_cases q3 : c = 257
        · rw [if_neg q, if_neg q, if_neg q2, if_neg q2, if_pos q3, if_pos q3]
        · rw [if_neg q, if_neg q, if_neg q2, if_neg q2, if_neg q3, if_neg q3]
          by_cases q4 : b = a
          · exact (hn ⟨q4, by omega⟩).elim
          · rw [up_other _ _ q4]
end
def aimD (d : Dev) (a : Nat) : Dev := if 0 < d.drops a then { d with drops := up d.drops a (d.drops a - 1) } else match d.miss a with
  | [] => d
  | t :: r => { d with miss := up d.miss a r }
def aimT (d : Dev) (a : Nat) : Nat := if 0 < d.drops a then 0 else match d.miss a with
  | [] => a
  | t :: r => t
def aimC (d : Dev) (a : Nat) : Bool := decide (¬ 0 < d.drops a)
theorem aimT_lt {base : Nat} {w : World} {p : Ph} {d : Dev} (h : DevIs base w p d) {a : Nat} (ha : a < d.n) : aimT d a < d.n := by
  unfold aimT
  split
  · omega
  · split
    · exact ha
    · rename_i t r e
      exact h.mok a ha t (by rw [e]; exact List.mem_cons_self)
set_option maxHeartbeats 800000 in
set_option maxRecDepth 100000 in
theorem aim_any (base : Nat) (p : Ph) (d : Dev) (a : Nat) (w : World) (h : DevIs base w p d) (ha : a < d.n) (hdr : d.drops a ≤ 1152921504606846976) :
    Calls Tryz.prog 100 #[.pointer (some ⟨p.B, 0, none⟩), .int .i64 (a : Int)] w (DPost base p d (aimD d a) (.tuple #[.int .i64 (aimT d a : Int), .bool (aimC d a)]) w) := by
  have c0 : w.cell? ⟨p.B, 0, none⟩ = some (.slice (some ⟨p.G, 0, none⟩) d.n p.c) := h.cellB 0
  have cd : w.cell? ⟨p.G, a * 259 + 257, none⟩ = some (.int .i64 (d.drops a : Int)) := h.cellG ha (by omega : 257 < 259)
  have cm : w.cell? ⟨p.G, a * 259 + 258, none⟩ = some (p.m a) := h.cellG ha (by omega : 258 < 259)
  have fd := h.frG (a * 259 + 257)
  have fm := h.frG (a * 259 + 258)
  have i1 : (0 : Int) ≤ (a : Int) := Int.natCast_nonneg _
  have i2 : (a : Int) < (d.n : Int) := by omega
  have HH := Lib.hid h
  have HA := Lib.hid ha
  by_cases hq : 0 < d.drops a
  · have HS := Lib.hid (show aimD d a = { d with drops := up d.drops a (d.drops a - 1) } ∧ aimT d a = 0 ∧ aimC d a = false by
      unfold aimD aimT aimC
      rw [if_pos hq, if_pos hq]
      exact ⟨rfl, rfl, decide_eq_false (fun n => n hq)⟩)
    have ex : ((d.drops a - 1 : Nat) : Int) = (d.drops a : Int) - 1 := by omega
    have h1 := h.setDrops ha (d.drops a - 1)
    have hc1 := chGF (p := p) (d := d) (chG w p (a * 259 + 257) (.int .i64 ((d.drops a - 1 : Nat) : Int)))
    rw [ex] at h1 hc1
    have HD := Lib.hid h1
    have HC := Lib.hid hc1
    have t1 : (0 : Int) < (d.drops a : Int) := by omega
    rw [HS.out.1, HS.out.2.1, HS.out.2.2]
    obtain ⟨B, G, V, m, cG⟩ := p
    clear h ha hq h1 hc1 ex cm fm
    go_enter Tryz.func100, Tryz.ntmps100
    go_wp2
    go_ret2
    exact DPost.turned HD.out rfl HC.out
  · have t1 : (d.drops a : Int) = 0 := by omega
    cases hm : d.miss a with
    | nil =>
      have HS := Lib.hid (show aimD d a = d ∧ aimT d a = a ∧ aimC d a = true by
        unfold aimD aimT aimC
        rw [if_neg hq, if_neg hq, hm]
        exact ⟨rfl, rfl, decide_eq_true hq⟩)
      have hms := h.ms a ha
      rw [hm] at hms
      obtain ⟨A, C, hv⟩ : ∃ A C, p.m a = .slice A 0 C := by
        rcases hms with ⟨hv, _⟩ | ⟨b, o, cap, c, hv, _⟩
        · exact ⟨_, _, hv⟩
        · exact ⟨_, _, hv⟩
      rw [hv] at cm
      rw [t1] at cd
      rw [HS.out.1, HS.out.2.1, HS.out.2.2]
      obtain ⟨B, G, V, m, cG⟩ := p
      clear h ha hq hms hv hm hdr
      go_enter Tryz.func100, Tryz.ntmps100
      go_wp2
      go_ret2
      exact DPost.turned HH.out rfl (Ch.refl _ _)
    | cons t r =>
      have HS := Lib.hid (show aimD d a = { d with miss := up d.miss a r } ∧ aimT d a = t ∧ aimC d a = true by
        unfold aimD aimT aimC
        rw [if_neg hq, if_neg hq, hm]
        exact ⟨rfl, rfl, decide_eq_true hq⟩)
      have hms := h.ms a ha
      rw [hm] at hms
      obtain ⟨b, o, cap, c, hv, hcap, hb, hsz, hmx, hall⟩ : ∃ b o cap c, p.m a = .slice (some ⟨b, o, none⟩) (r.length + 1) cap ∧ r.length + 1 ≤ cap ∧ w.heap[b]? = some (.cells c 3 (0, 0)) ∧ o + cap ≤ c.size ∧ cap ≤ 9223372036854775807 ∧ ∀ i x : Nat, (t :: r)[i]? = some x → c[o + i]? = some (.int .i64 (x : Int)) := by
        rcases hms with ⟨_, hv⟩ | ⟨b, o, cap, c, hv, h1, h2, h3, h4, h5⟩
        · cases hv
        · exact ⟨b, o, cap, c, hv, h1, h2, h3, h4, h5⟩
      have ct : w.cell? ⟨b, o, none⟩ = some (.int .i64 (t : Int)) := by rw [blk_cell hb]; exact hall 0 t rfl
      have hGb : p.G ≠ b := fun e => h.GM ha (by rw [hv, e]; rfl)
      have hdone : ∀ v : Value, v.ownBlock = some b → (∀ w' : World, w'.heap[b]? = some (.cells c 3 (0, 0)) → MissIs w' v r) → DPost base p d (aimD d a) (.tuple #[.int .i64 (aimT d a : Int), .bool (aimC d a)]) w (.returned (.tuple #[.int .i64 (t : Int), .bool true])) (w.setCell ⟨p.G, a * 259 + 258, none⟩ v) := fun v hvb hvm => by
        have ho : ∀ i, v.ownBlock = some i → (p.m a).ownBlock = some i ∨ w.heap.size ≤ i := fun i hi => Or.inl (by rw [hv]; rw [hvb] at hi; exact hi)
        have hk := chG w p (a * 259 + 258) v
        rw [HS.out.1, HS.out.2.1, HS.out.2.2]
        refine ⟨rfl, { p with m := up p.m a v }, rfl, h.turnM ha (hk.mono fun _ _ e => Or.inl e) (sec_setM h ha v) (hvm _ ((hk.block b (blk_lt hb) (fun e => hGb e.symm)).trans hb)) ho (fun x hx => h.mok a ha x (by rw [hm]; exact List.mem_cons_of_mem _ hx)), foot_turnM ha _ ho, chGF hk⟩
      rw [hv] at cm
      rw [t1] at cd
      have u1 : ((r.length + 1 : Nat) : Int) = (r.length : Int) + 1 := by omega
      by_cases hC : cap = 1
      · subst hC
        have hr0 : r = [] := List.eq_nil_of_length_eq_zero (by omega)
        subst hr0
        have HD := Lib.hid (hdone (.slice (some ⟨b, o, none⟩) 0 0) rfl (fun w' hw' => Or.inr ⟨b, o, 0, c, rfl, Nat.le_refl _, hw', by omega, by omega, fun i x hx => by cases hx⟩))
        obtain ⟨B, G, V, m, cG⟩ := p
        clear h ha hq hms hv hm hdr hdone hall hb hGb HS hsz hcap u1 hmx
        go_enter Tryz.func100, Tryz.ntmps100
        go_wp2
        go_ret2
        exact HD.out
      · have HD := Lib.hid (hdone (.slice (some ⟨b, o + 1, none⟩) r.length (cap - 1)) rfl (fun w' hw' => Or.inr ⟨b, o + 1, cap - 1, c, rfl, by omega, hw', by omega, by omega, fun i x hx => by
          rw [show o + 1 + i = o + (i + 1) by omega]
          exact hall (i + 1) x hx⟩))
        have t2 : (cap : Int) - 1 ≠ 0 := by omega
        have t3 : (1 : Int) ≤ (cap : Int) := by omega
        obtain ⟨n, hn⟩ : ∃ n, n = r.length := ⟨_, rfl⟩
        rw [← hn] at HD cm u1 hcap
        obtain ⟨B, G, V, m, cG⟩ := p
        clear h ha hq hms hv hm hdr hdone hall hb hGb HS hsz hn
        go_enter Tryz.func100, Tryz.ntmps100
        go_wp2
        trace_state
        go_ret2
        exact HD.out
end Go.Proofs.YteleknojohnlbaaGreat
namespace Go.Proofs.YteleknojohnlbaaGreat
open Go.RowKit
set_option linter.unusedVariables false
set_option maxRecDepth 100000
def NewL (n : Nat) (z : Nat → Nat) (w : World) (e : Ending) (w' : World) : Prop := ∃ v, e = .returned v ∧ w'.ownsRow w.heap.size /-t-/5 1 v n (bytesL n z) ∧ Ch (fun _ => False) w w'
theorem eql_nil (w : World) (a : Option Addr) (n c : Nat) : (binOp .eql /-t-/24 (.slice a n c) (.slice none 0 0)).run Tryz.prog w = .ok (.bool a.isNone) w := Lib.run_eql_slice_nil w _ _ a n c 0 0 Tryz.underlying24
set_option maxHeartbeats 400000 in
theorem clone_nil (C : Nat) (w : World) (z : Nat → Nat) : Calls Tryz.prog 118 #[.slice none 0 C] w (NewL 0 z w) := by
  have q := eql_nil w none 0 C
  go_enter Tryz.func118, Tryz.ntmps118
  go_wp2
  go_ret
  exact ⟨_, rfl, World.ownsRow_nil _ _ _ _, Ch.refl _ _⟩
theorem none_owned (w : World) : (w.alloc (.cells #[] /-t-/5)).ownsRow w.heap.size /-t-/5 1 (.slice (some ⟨w.heap.size, 0, none⟩) 0 0) 0 (bytesL 0 fun _ => 0) :=
  ⟨rfl, Or.inr ⟨w.heap.size, 0, #[], rfl, Nat.le_refl _, heap_alloc_new w _, Nat.le_refl _, Nat.zero_le _, rfl, rfl⟩⟩
set_option maxHeartbeats 400000 in
theorem clone_some (ad : Addr) (n C : Nat) (z : Nat → Nat) (w : World) (h : RowV w (.slice (some ad) n C) n z) (hn : n ≤ 1048576) : Calls Tryz.prog 118 #[.slice (some ad) n C] w (NewL n z w) := by
  have hch0 := (Ch.refl (fun _ => False) w).alloc #[] /-t-/5
  obtain ⟨v1, w1, hr1, ho1, hg1, _⟩ := app_row (z := fun _ => 0) (none_owned w) (by simp) (h.gr hch0) (by omega)
  rw [Nat.zero_add, bytesL_congr (y := z) fun c hc => by unfold jnZ; rw [if_neg (by omega)]; rfl] at ho1
  have HR := Lib.hid hr1
  have HO := Lib.hid ho1
  have HC := Lib.hid (hch0.grown hg1 (fun i e => Or.inr (World.ownsRow.lt (none_owned w) i e).1))
  clear hr1 ho1 hg1 h hch0
  have q := eql_nil w (some ad) n C
  go_enter Tryz.func118, Tryz.ntmps118
  go_wp2_with (at_builtin; refine wpList_app_of _ rfl (.tmp 5) (.tmp 6) rfl rfl _ _ v1 w1 rfl rfl HR.out ?_)
  go_ret
  exact ⟨_, rfl, HO.out, HC.out⟩
theorem clone_any (A : Option Addr) (n C : Nat) (z : Nat → Nat) (w : World) (h : RowV w (.slice A n C) n z) (hn : n ≤ 1048576) : Calls Tryz.prog 118 #[.slice A n C] w (NewL n z w) := by
  cases A with
  | some ad => exact clone_some ad n C z w h hn
  | none =>
    obtain ⟨_, _, e, _, h2⟩ := h
    injection e with e1 _ _
    subst e1
    rcases Nat.eq_zero_or_pos n with rfl | q
    · exact clone_nil C w z
    · obtain ⟨_, _, e, _⟩ := h2 q
      cases e
end Go.Proofs.YteleknojohnlbaaGreat
