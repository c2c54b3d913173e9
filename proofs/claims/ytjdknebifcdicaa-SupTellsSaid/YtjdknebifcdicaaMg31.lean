/-
  sup.Install and Read, walked. sup.Read, walked.
-/
import Derived.Test.YtjdknebifcdicaaMg29
import Derived.Test.YtjdknebifcdicaaMg30
import Derived.Test.YtjdknebifcdicaaMg23
namespace Go.Proofs.Ytjdknebifcdicaa
open Go.RowKit
set_option linter.unusedVariables false
set_option maxRecDepth 100000

/-! ### Install -/
def putS (x : Sp) (j : Nat) : PutP := ⟨(j : Int), 256, sectS x (j : Int)⟩
def instD (x : Sp) (d : Dev) : Dev := if mayS x then (allTo (putS x) d 4).d else d
def instE (x : Sp) (d : Dev) : Int := if mayS x then (allTo (putS x) d 4).e else 1
theorem sok_at {x : Sp} {k : Nat} (hk : k < 4) : sokB x (k : Int) = mayS x := by
  unfold sokB placeB
  have : inB (k : Int) 0 3 = true := inB_true.2 ⟨by omega, by omega⟩
  rw [this, Bool.and_true]
theorem own_new {w wr w2 : World} {n C : Nat} {A : Option Addr} {z : Nat → Nat} (h : w2.ownsRow wr.heap.size /-t-/5 1 (.slice A n C) n (bytesL n z)) (hn : 0 < n) (hn2 : n ≤ 1000000) (hz : Bytes n z) (hc : w.heap.size ≤ wr.heap.size) : ∃ g, A = some ⟨g, 0, none⟩ ∧ OwnB w w2 (.slice A n C) n z g 0 C := by
  have hr := ownsRow_rowV h (by omega) hz
  obtain ⟨g, C', e, _⟩ := owns_some h hn
  injection e with e1 _ e2
  subst e1
  obtain ⟨hg, hb⟩ := own_at h (i := g) rfl
  exact ⟨g, rfl, ⟨rfl, hr, hb, Nat.le_trans hc hg⟩⟩
set_option maxHeartbeats 3200000 in
theorem install_any (base : Nat) (p : Ph) (d : Dev) (x : Sp) (t : Nat) (w : World) (h : DevIs base w p d) (hl : Lim d t) (hm : LimM d t) (ht : t ≤ 900000) :
    Calls Try.prog 19 #[.pointer (some ⟨p.B, 0, none⟩), .agg (supC x)] w (DPost base p d (instD x d) (.int .i64 (instE x d)) w) := by
  obtain ⟨w1, H, hR⟩ := boxR w (supC x) 25
  have HD1 := Lib.hid (h.gr hR.ch)
  have HFT := Lib.hid (fun i (hi : Foot p d i) => (h.foot hi).2)
  have HPL := Lib.hid (And.intro hl (And.intro hm ht))
  have HR := Lib.hid hR
  have HS0 : Hid (∃ s, PutsO w1 w1 (.slice none 0 0) 0 (putS x) s) := ⟨fun _ => .slice none 0 0, PutsO.start w1 _ _⟩
  clear h hR hl hm ht
  go_enter Try.func19, Try.ntmps19
  go_wp2_with ((with_reducible refine wpList_isOp (.box 25 (.tmp 1)) rfl ?_); refine wpList_boxing _ w1 rfl 25 (.tmp 1) rfl (supC x) H rfl (by exact HR.out.sz) (by exact HR.out.al) ?_)
  go_loopw [5, 6, 7, 8, 9, 10, 11, 12, 13, 14, 15, 16, 17, 18, 19, 20, 21, 22, 23, 24, 25, 26, 27] (fun v _ _ _ i _ _ _ _ _ _ _ _ _ _ _ _ _ _ _ _ _ _ wr => ∃ k : Nat, k ≤ 4 ∧ i = .int .i64 k ∧ Hid (∃ s, PutsO w1 wr v k (putS x) s) ∧ Hid (0 < k → mayS x = true)) (fun _ _ _ _ i _ _ _ _ _ _ _ _ _ _ _ _ _ _ _ _ _ _ _ => 4 - (intOf i).toNat)
  case atStart => exact ⟨0, Nat.zero_le _, rfl, HS0, Lib.hid fun q => absurd q (Nat.lt_irrefl 0)⟩
  case round =>
    obtain ⟨k, hk, rfl, HK, HM⟩ := hrel
    clear HS0
    obtain ⟨s, hs⟩ := HK.out
    obtain ⟨A0, C0, rfl⟩ := hs.len
    have HK := Lib.hid hs
    clear hs
    by_cases hlt : k < 4
    · have i1 : (0 : Int) ≤ (k : Int) := Int.natCast_nonneg _
      have i2 : (k : Int) < 4 := by omega
      have HLT := Lib.hid hlt
      have HL := Lib.hid (load_su ((HK.out.ch.block H (blk_lt HR.out.cx) (fun f => f)).trans HR.out.cx))
      have HS := Lib.hid (ssector_any x (k : Int) wr)
      clear hlt
      go_wp2_with (first | ((with_reducible refine wpList_isOp (.load 25 (.tmp 3)) rfl ?_); refine wpList_loading _ rfl 25 (.tmp 3) rfl (.agg (supC x)) ⟨H, 0, none⟩ rfl (by exact HL.out) ?_) | fail)
      refine HS.out.mono ?_
      rintro e1 w2 ⟨A4, C4, rfl, ho2, hc2⟩
      have HK2 := Lib.hid (HK.out.gr hc2)
      cases hs : sokB x (k : Int)
      · have HE : secE x (k : Int) = 1 := by unfold secE; rw [hs]; rfl
        have hms : mayS x = false := by rw [← sok_at HLT.out]; exact hs
        have HFIN := Lib.hid (show DPost base p d (instD x d) (.int .i64 (instE x d)) w (.returned (.int .i64 1)) w2 by
          have e1 : instD x d = d := by unfold instD; rw [hms]; rfl
          have e2 : instE x d = 1 := by unfold instE; rw [hms]; rfl
          rw [e1, e2]
          exact DPost.turned (HD1.out.gr HK2.out.ch) rfl ((HR.out.ch.trans HK2.out.ch).mono fun _ _ f => f.elim))
        rw [HE]
        clear hs HE hms ho2 hc2
        go_wp2
        go_ret
        exact HFIN.out
      · have HE : secE x (k : Int) = 0 := by unfold secE; rw [hs]; rfl
        have HQ : secN x (k : Int) = 256 := by unfold secN; rw [hs]; rfl
        have HMS := Lib.hid (show mayS x = true by rw [← sok_at HLT.out]; exact hs)
        rw [HQ] at ho2
        rw [HE, HQ]
        obtain ⟨sb, rfl, hob⟩ := own_new (w := w1) ho2 (by omega) (by omega) (sectS_b _) HK.out.ch.size
        obtain ⟨g2, cap, w3, hr3, hs3⟩ := HK2.out.app (u := .slice (some ⟨sb, 0, none⟩) 256 C4) hob (by have := HLT.out; omega)
        have HSL := Lib.hid (slice_put w2 (.int .i64 (k : Int)) (.slice (some ⟨sb, 0, none⟩) 256 C4))
        obtain ⟨ws, hws⟩ : ∃ ws, ws = w2.alloc (.cells #[.int .i64 (k : Int), .slice (some ⟨sb, 0, none⟩) 256 C4] 78) := ⟨_, rfl⟩
        obtain ⟨K, hK⟩ : ∃ K, K = w2.heap.size := ⟨_, rfl⟩
        obtain ⟨N, hN⟩ : ∃ N, N = k + 1 := ⟨_, rfl⟩
        have hpl : (putS x k).pl = (k : Int) := rfl
        rw [hpl, ← hws, ← hK, ← hN] at hr3
        rw [← hws, ← hK] at HSL
        rw [← hN] at hs3
        have HRUN := Lib.hid hr3
        have HS3 := Lib.hid (show ∃ s, PutsO w1 w3 _ N (putS x) s from ⟨_, hs3⟩)
        have HLT2 := HLT.out
        have HN := Lib.hid hN
        clear hr3 hs3 hpl hws hK hN ho2 hc2 hob hs HE HQ
        go_wp2_with (first
          | ((with_reducible refine wpList_isOp (.buildSlice 76 1 #[(0, .tmp 24)]) rfl ?_); refine wpList_slicing1 _ ws rfl 76 0 1 (.tmp 24) rfl (.agg #[.int .i64 (k : Int), .slice (some ⟨sb, 0, none⟩) 256 C4]) (.slice (some ⟨K, 0, none⟩) 1 1) rfl (by exact HSL.out) ?_)
          | ((with_reducible refine wpList_isOp (.call { callee := .builtin .append, args := #[.tmp 21, .tmp 25], argTypes := #[ 76, 76] }) rfl ?_); refine wpList_appP _ rfl (.tmp 21) (.tmp 25) rfl rfl (.slice A0 k C0) (.slice (some ⟨K, 0, none⟩) 1 1) (.slice (some ⟨g2, 0, none⟩) N cap) w3 rfl rfl (by exact HRUN.out) ?_)
          | fail)
        go_roundw
        case rel => exact ⟨N, by rw [HN.out]; omega, by rw [HN.out]; go_num, HS3, Lib.hid fun _ => HMS.out⟩
        case measure => simp [intOf]; omega
    · obtain rfl : k = 4 := by omega
      have hms := HM.out (by omega)
      have HV := HK.out.read (by omega)
      have HO := Lib.hid (kall_any base (fun i => w1.heap.size ≤ i ∧ i < wr.heap.size) p d 4 (putS x) A0 C0 t wr (HD1.out.gr HK.out.ch) HV (fun i hi hf => by have := HFT.out i hf; have := HR.out.ch.size; omega) (fun i hi => hi.2) HPL.out.1 HPL.out.2.1 (by have := HPL.out.2.2; omega))
      have HC := Lib.hid (HR.out.ch.trans HK.out.ch)
      have HI := Lib.hid (show instD x d = (allTo (putS x) d 4).d ∧ instE x d = (allTo (putS x) d 4).e by unfold instD instE; rw [hms]; exact ⟨rfl, rfl⟩)
      clear hlt hk hms HV
      rw [show ((4 : Nat) : Int) = 4 from rfl]
      go_wp2_with fail
      refine HO.out.mono ?_
      rintro e w2 hp
      obtain ⟨rfl, hq⟩ := id hp
      have HP := Lib.hid (hp.since HC.out)
      clear hp hq HO
      go_wp2
      go_ret
      rw [HI.out.1, HI.out.2]
      exact HP.out
#print axioms install_any
end Go.Proofs.Ytjdknebifcdicaa
namespace Go.Proofs.Ytjdknebifcdicaa
open Go.RowKit
set_option linter.unusedVariables false
set_option maxRecDepth 100000

/-! ### rows of bytes, gathered -/
theorem under_bs : Try.prog.underlying /-t-/36 = some (.slice /-t-/26) := by kernel_rfl
theorem info_bs : (Try.prog.info? /-t-/26).map (fun i => (i.zero, i.size, i.bytes)) = some (some (.slice none 0 0), 1, 24) := by kernel_rfl
theorem wpList_appB {ops : Array Oper} {rest : List Oper} {o : Oper} {a : Act} {Q : Exit → Act → World → Prop} (w : World) (hgd : o.guard = none) (s x : Operand)
    (ho : o.op = .call { callee := .builtin .append, args := #[s, x], argTypes := #[ /-t-/36, /-t-/36] }) (hty : o.type = /-t-/36) (sv xv v' : Value) (w' : World) (hs : a.eval s = sv) (hx : a.eval x = xv)
    (hrun : (Builtin.append_ #[ /-t-/36, /-t-/36] /-t-/36 #[sv, xv]).run Try.prog w = .ok v' w') (h : wpList Try.prog ops Q rest (a.put o.dst v') w') : wpList Try.prog ops Q (o :: rest) a w := by
  refine wpList_plain hgd fun _ hK => ?_
  unfold Oper.wp execOp
  simp only [ho, hty, resolve, invoke, builtin, Sem.run_bind, Sem.run_pure, Result.andThen_ok, List.map_toArray, List.map_cons, List.map_nil, hs, hx, hrun]
  exact hK _ _ h
def slL (s : Nat → Value) (k : Nat) : List Value := (List.range k).map s
theorem slL_snoc (s : Nat → Value) (k : Nat) (u : Value) : slL (up s k u) (k + 1) = slL s k ++ [u] := by
  unfold slL
  rw [List.range_succ, List.map_append]
  congr 1
  · exact List.map_congr_left fun c hc => up_other s u (by have := List.mem_range.1 hc; omega)
  · simp [up_same]
/-- Bytes of one's own, or none. -/
def RowN (w wr : World) (u : Value) (n : Nat) (z : Nat → Nat) : Prop := ∃ A C, u = .slice A n C ∧ n ≤ C ∧ (n = 0 ∨ ∃ sb so, OwnB w wr u n z sb so C)
theorem RowN.ch {S : Nat → Prop} {w wr w' : World} {u : Value} {n : Nat} {z : Nat → Nat} (h : RowN w wr u n z) (k : Ch S wr w') (hS : ∀ i, S i → w.heap.size ≤ i → ¬ ∃ c, wr.heap[i]? = some (.cells c /-t-/5 (0, 0))) : RowN w w' u n z := by
  obtain ⟨A, C, h1, h2, h3⟩ := h
  refine ⟨A, C, h1, h2, h3.elim Or.inl fun ⟨sb, so, q⟩ => Or.inr ⟨sb, so, q.ch k fun hs => hS sb hs q.lo q.blk⟩⟩
theorem RowN.row {w wr : World} {u : Value} {n : Nat} {z : Nat → Nat} (h : RowN w wr u n z) : RowV wr u n z := by
  obtain ⟨A, C, h1, h2, h3⟩ := h
  rcases h3 with rfl | ⟨sb, so, q⟩
  · exact ⟨A, C, h1, ⟨by omega, h2⟩, fun q => absurd q (Nat.lt_irrefl 0)⟩
  · rw [q.eq]; exact q.row
theorem RowN.own {w wr w2 : World} {v : Value} {n : Nat} {z : Nat → Nat} (h : w2.ownsRow wr.heap.size /-t-/5 1 v n (bytesL n z)) (hn2 : n ≤ 1000000) (hz : Bytes n z) (hc : w.heap.size ≤ wr.heap.size) : RowN w w2 v n z := by
  obtain ⟨A, C, rfl⟩ := own_slice h
  obtain ⟨_, C', e, h2, _⟩ := ownsRow_rowV h (by omega) hz
  injection e with _ _ e
  subst e
  refine ⟨A, C, rfl, h2.2, ?_⟩
  by_cases q : n = 0
  · exact Or.inl q
  · obtain ⟨g, rfl, hb⟩ := own_new h (by omega) hn2 hz hc
    exact Or.inr ⟨g, 0, hb⟩
structure BsO (w wr : World) (v : Value) (k : Nat) (N : Nat → Nat) (Z : Nat → Nat → Nat) (s : Nat → Value) : Prop where
  own : wr.ownsRow w.heap.size /-t-/26 1 v k (slL s k)
  rows : ∀ c, c < k → RowN w wr (s c) (N c) (Z c)
theorem BsO.start (w : World) (N : Nat → Nat) (Z : Nat → Nat → Nat) (s : Nat → Value) : BsO w w (.slice none 0 0) 0 N Z s := ⟨World.ownsRow_nil w w.heap.size _ 1, fun c hc => absurd hc (Nat.not_lt_zero c)⟩
theorem BsO.ch {S : Nat → Prop} {w wr w' : World} {v : Value} {k : Nat} {N : Nat → Nat} {Z : Nat → Nat → Nat} {s : Nat → Value} (h : BsO w wr v k N Z s) (g : Ch S wr w') (hS : ∀ i, S i → i < w.heap.size) : BsO w w' v k N Z s :=
  ⟨own_of h.own fun i hi => by
    obtain ⟨hb, c, hc⟩ := own_at h.own hi
    exact g.block i (blk_lt hc) fun q => by have := hS i q; omega, fun c hc => (h.rows c hc).ch g fun i hi hb => by have := hS i hi; omega⟩
theorem BsO.len {w wr : World} {v : Value} {k : Nat} {N : Nat → Nat} {Z : Nat → Nat → Nat} {s : Nat → Value} (h : BsO w wr v k N Z s) : ∃ A C, v = .slice A k C := by
  rcases h.own.2 with ⟨rfl, h0⟩ | ⟨g, cap, cur, rfl, _⟩
  · exact ⟨none, 0, by rw [h0]⟩
  · exact ⟨_, _, rfl⟩
theorem RowN.one {w wr : World} {u : Value} {n : Nat} {z : Nat → Nat} (h : RowN w wr u n z) : u.oneCell' = true := by
  obtain ⟨A, C, h1, _⟩ := h
  rw [h1]; rfl
theorem BsO.app {w wr : World} {v u : Value} {k : Nat} {N : Nat → Nat} {Z : Nat → Nat → Nat} {s : Nat → Value} (h : BsO w wr v k N Z s) (hu : RowN w wr u (N k) (Z k)) (hk : k ≤ 1048576) (hw : w.heap.size ≤ wr.heap.size) :
    ∃ g cap w2, (Builtin.append_ #[ /-t-/36, /-t-/36] /-t-/36 #[v, .slice (some ⟨wr.heap.size, 0, none⟩) 1 1]).run Try.prog (wr.alloc (.cells #[u] /-t-/26)) = .ok (.slice (some ⟨g, 0, none⟩) (k + 1) cap) w2 ∧ BsO w w2 (.slice (some ⟨g, 0, none⟩) (k + 1) cap) (k + 1) N Z (up s k u) ∧ Ch (fun i => w.heap.size ≤ i) wr w2 := by
  obtain ⟨i0, hi, hz0, hz1, hz2⟩ := info_parts info_bs
  have k1 : Ch (fun _ => False) wr (wr.alloc (.cells #[u] /-t-/26)) := (Ch.refl _ wr).alloc _ _
  obtain ⟨g, cap, w2, hr, h2, h3, h4, _⟩ := run_append_lies (P := Try.prog) (wr.alloc (.cells #[u] /-t-/26)) /-t-/36 /-t-/36 w.heap.size /-t-/26 i0 (.slice none 0 0) 1 24 under_bs hi hz0 hz1 hz2 rfl (by decide) v k (slL s k) (ownsRow_ch h.own k1) ⟨wr.heap.size, 0, none⟩ 1 1 [u] rfl (fun j x hx => by
    rw [add_pl, blk_cell (heap_alloc_new wr _), Nat.zero_add]
    show ([u].toArray)[j]? = some x
    rw [List.getElem?_toArray]
    exact hx) (fun x hx => by rw [List.mem_singleton.1 hx]; exact hu.one) (by omega) (by unfold maxLen; omega) (by omega) (Nat.le_trans hw k1.size) _ rfl
  rw [← slL_snoc] at h2
  have k2 : Ch (fun i => v.ownBlock = some i) (wr.alloc (.cells #[u] /-t-/26)) w2 := (Ch.refl _ _).grown h3 (fun i hi => Or.inl hi)
  have off : ∀ i, v.ownBlock = some i → w.heap.size ≤ i → ¬ ∃ c, (wr.alloc (.cells #[u] /-t-/26)).heap[i]? = some (.cells c /-t-/5 (0, 0)) := fun i e _ ⟨c, hc⟩ => by
    obtain ⟨_, c2, hc2⟩ := own_at (ownsRow_ch h.own k1) e
    exact cells_ne hc2 hc (by decide) rfl
  refine ⟨g, cap, w2, hr, ⟨h2, fun c hc => ?_⟩, (k1.mono fun _ _ f => f.elim).trans (k2.mono fun i _ hi => (own_at h.own hi).1)⟩
  by_cases q : c = k
  · subst q
    rw [up_same]
    exact (hu.ch k1 fun _ f => f.elim).ch k2 off
  · rw [up_other _ _ q]
    exact ((h.rows c (by omega)).ch k1 fun _ f => f.elim).ch k2 off
theorem BsO.read {w wr : World} {A : Option Addr} {C k : Nat} {N : Nat → Nat} {Z : Nat → Nat → Nat} {s : Nat → Value} (h : BsO w wr (.slice A k C) k N Z s) (hk : k ≤ 1000000) : BsV wr A k C N Z := by
  have hC : k ≤ C := by
    rcases h.own.2 with ⟨e, h0⟩ | ⟨g, cap, cur, e, _, _, hc, _⟩
    · omega
    · injection e with _ _ e
      omega
  refine ⟨by omega, hC, fun h0 => ?_⟩
  rcases h.own.2 with ⟨_, q⟩ | ⟨g, cap, cur, e, hb, hg, _⟩
  · omega
  · injection e with e _ _
    subst e
    refine ⟨g, 0, rfl, fun c hc => ?_⟩
    have hr := h.rows c hc
    obtain ⟨A', C', e', _⟩ := id hr
    have c0 := World.ownsRow.cells h.own (g := g) rfl c (s c) (by unfold slL; simp [hc])
    rw [add_pl] at c0
    exact ⟨A', C', by rw [← e']; exact c0, by rw [← e']; exact hr.row⟩
#print axioms BsO.app
#print axioms BsO.read

/-! ### Read -/
/-- The device behind so many reads. -/
def supD (d : Dev) : Nat → Dev
  | 0 => d
  | k + 1 => readD (supD d k) (k : Int)
theorem readD_n (d : Dev) (a : Int) : (readD d a).n = d.n := by unfold readD; split <;> rfl
theorem supD_n (d : Dev) : ∀ k, (supD d k).n = d.n
  | 0 => rfl
  | k + 1 => (readD_n _ _).trans (supD_n d k)
theorem supD_W (d : Dev) : ∀ k, (supD d k).W = d.W
  | 0 => rfl
  | k + 1 => by
    have ih := supD_W d k
    show (readD (supD d k) (k : Int)).W = d.W
    unfold readD; split <;> exact ih
theorem supD_ops (d : Dev) : ∀ k, (supD d k).ops ≤ d.ops + k
  | 0 => Nat.le_refl _
  | k + 1 => by
    have ih := supD_ops d k
    show (readD (supD d k) (k : Int)).ops ≤ _
    unfold readD
    split
    · show (supD d k).ops + 1 ≤ _; omega
    · omega
def supN (d : Dev) (k : Nat) : Nat := readL (supD d k) (k : Int)
def supZ (d : Dev) (k : Nat) : Nat → Nat := readZ (supD d k) (k : Int)
def pkE (o : Option Sp) : Int := if o.isSome then 0 else 22
def RdPost (base : Nat) (p : Ph) (d : Dev) (w : World) (e : Ending) (w' : World) : Prop :=
  ∃ O : Nat → Option Sp, (∀ c, c < 4 → TellS (supN d c) (supZ d c) (c : Int) (O c)) ∧ e = .returned (.tuple #[.agg (supC (optS (pickF O 4))), .int .i64 (pkE (pickF O 4))]) ∧ DevIs base w' p (supD d 4) ∧ Ch (Foot p d) w w'
/-- The world between two reads. -/
structure RdS (base : Nat) (p : Ph) (d : Dev) (w wr : World) (v : Value) (k : Nat) : Prop where
  dev : DevIs base wr p (supD d k)
  rows : ∃ s, BsO w wr v k (supN d) (supZ d) s
  ch : Ch (fun i => Foot p d i ∨ w.heap.size ≤ i) w wr
theorem RdS.read {base : Nat} {p : Ph} {d : Dev} {w wr w2 : World} {v u : Value} {k : Nat} (h : RdS base p d w wr v k) (hf : ∀ i, Foot p d i → i < w.heap.size) (h2 : DevIs base w2 p (supD d (k + 1))) (hr : w2.ownsRow wr.heap.size /-t-/5 1 u (supN d k) (bytesL (supN d k) (supZ d k))) (hc : Ch (Foot p (supD d k)) wr w2) :
    RowN w w2 u (supN d k) (supZ d k) ∧ (∃ s, BsO w w2 v k (supN d) (supZ d) s) ∧ Ch (fun i => Foot p d i ∨ w.heap.size ≤ i) w w2 := by
  obtain ⟨s, hs⟩ := h.rows
  have hz : Bytes (supN d k) (supZ d k) := read_bytes h.dev (k : Int)
  have hn : supN d k ≤ 256 := by unfold supN readL; split <;> omega
  refine ⟨RowN.own hr (by omega) hz h.ch.size, ⟨s, hs.ch hc fun i hi => hf i ((foot_n (supD_n d k)).1 hi)⟩, h.ch.trans (hc.mono fun i _ hi => Or.inl ((foot_n (supD_n d k)).1 hi))⟩
set_option maxHeartbeats 3200000 in
theorem supRead_any (base : Nat) (p : Ph) (d : Dev) (w : World) (h : DevIs base w p d) (hd : d.dead = false) (ho : d.ops ≤ 1000000) (hW : d.W.length ≤ 1000000) : Calls Try.prog 21 #[.pointer (some ⟨p.B, 0, none⟩)] w (RdPost base p d w) := by
  obtain ⟨w1, H, hZ⟩ := zeS w
  have HD0 := Lib.hid (dead_any base p d w1 (h.gr hZ.ch))
  rw [hd] at HD0
  have HFT := Lib.hid (show ∀ i, Foot p d i → i < w1.heap.size from fun i hi => by have := (h.foot hi).2; have := hZ.ch.size; omega)
  have HFW := Lib.hid (fun i (hi : Foot p d i) => (h.foot hi).2)
  have HS0 := Lib.hid (show RdS base p d w1 w1 (.slice none 0 0) 0 from ⟨h.gr hZ.ch, ⟨fun _ => .slice none 0 0, BsO.start w1 _ _ _⟩, Ch.refl _ w1⟩)
  have HOP := Lib.hid (And.intro ho hW)
  have HHW := Lib.hid (show w.heap.size ≤ H by rw [hZ.sz]; exact Nat.le_refl _)
  have HZ := Lib.hid hZ
  clear h hd ho hW hZ
  go_enter Try.func21, Try.ntmps21
  go_wp2_with ((with_reducible refine wpList_isOp (.alloc 25) rfl ?_); refine wpList_making _ w1 rfl 25 rfl (supC sp0) H (zero_su _) (by exact HZ.out.sz) (by exact HZ.out.al) ?_)
  refine HD0.out.mono ?_
  rintro e w' ⟨rfl, rfl⟩
  go_wp2
  go_loopw [4, 5, 6, 7, 13, 14, 15, 16, 17, 18, 19, 20, 21, 22, 23, 24, 25, 26] (fun v _ _ _ i _ _ _ _ _ _ _ _ _ _ _ _ _ wr => ∃ k : Nat, k ≤ 4 ∧ i = .int .i64 k ∧ Hid (RdS base p d w1 wr v k)) (fun _ _ _ _ i _ _ _ _ _ _ _ _ _ _ _ _ _ _ => 4 - (intOf i).toNat)
  case atStart => exact ⟨0, Nat.zero_le _, rfl, HS0⟩
  case round =>
    obtain ⟨k, hk, rfl, HK⟩ := hrel
    clear HS0 HD0
    obtain ⟨s0, hs0⟩ := HK.out.rows
    obtain ⟨A0, C0, rfl⟩ := hs0.len
    clear hs0 s0
    by_cases hlt : k < 4
    · have i1 : (0 : Int) ≤ (k : Int) := Int.natCast_nonneg _
      have i2 : (k : Int) < 4 := by omega
      have HLT := Lib.hid hlt
      have HO := Lib.hid (read_any base p (supD d k) (k : Int) wr HK.out.dev (by have := supD_ops d k; have := HOP.out.1; omega) (by rw [supD_W]; have := HOP.out.2; omega))
      clear hlt
      go_wp2_with fail
      refine HO.out.mono ?_
      rintro e1 w2 ⟨u, rfl, q1, q2, q3⟩
      obtain ⟨r1, ⟨s, r2⟩, r3⟩ := HK.out.read HFT.out q1 q2 q3
      obtain ⟨A5, C5, rfl⟩ := own_slice q2
      obtain ⟨g2, cap, w3, hr3, hs3, hc3⟩ := r2.app r1 (by have := HLT.out; omega) r3.size
      obtain ⟨N, hN⟩ : ∃ N, N = k + 1 := ⟨_, rfl⟩
      have HNX := Lib.hid (show RdS base p d w1 w3 (.slice (some ⟨g2, 0, none⟩) N cap) N by
        rw [hN]
        refine ⟨q1.ch hc3 fun i hi hb => ?_, ⟨_, hs3⟩, r3.trans (hc3.mono fun i _ hi => Or.inr hi)⟩
        have := HFT.out i ((foot_n (supD_n d (k + 1))).1 hi)
        omega)
      rw [← hN] at hr3
      have HRUN := Lib.hid hr3
      have HN := Lib.hid hN
      have HLT2 := HLT.out
      obtain ⟨E, hE⟩ : ∃ E, E = readE (supD d k) (k : Int) := ⟨_, rfl⟩
      obtain ⟨M, hM⟩ : ∃ M, M = readL (supD d k) (k : Int) := ⟨_, rfl⟩
      rw [← hE, ← hM]
      rw [← hM] at HRUN
      clear hr3 hs3 hc3 hN q1 q2 q3 r1 r2 r3 HO hE hM s
      go_wp2_with (at_builtin; refine wpList_appB _ rfl (.tmp 22) (.tmp 24) rfl rfl _ _ (.slice (some ⟨g2, 0, none⟩) N cap) w3 rfl rfl (by exact HRUN.out) ?_)
      go_roundw
      case rel => exact ⟨N, by rw [HN.out]; omega, by rw [HN.out]; go_num, HNX⟩
      case measure => simp [intOf]; omega
    · obtain rfl : k = 4 := by omega
      obtain ⟨s, hs⟩ := HK.out.rows
      have HP := Lib.hid (spick_any A0 4 C0 (supN d) (supZ d) wr (hs.read (by omega)))
      clear hlt hk hs
      rw [show ((4 : Nat) : Int) = 4 from rfl]
      go_wp2_with fail
      refine HP.out.mono ?_
      rintro e w2 ⟨O, hO, rfl, hc2⟩
      rw [show min 4 4 = 4 from rfl] at hO ⊢
      obtain ⟨x, hx⟩ : ∃ x, x = optS (pickF O 4) := ⟨_, rfl⟩
      obtain ⟨q, hq⟩ : ∃ q, q = (pickF O 4).isSome := ⟨_, rfl⟩
      have hx0 : q = false → x = sp0 := fun e => by
        rw [hx]
        rw [e] at hq
        cases hp : pickF O 4 with
        | none => rfl
        | some y => rw [hp] at hq; cases hq
      obtain ⟨wz, w3, H3, hV3⟩ := varS x w2
      have hcw : Ch (fun i => Foot p d i ∨ w1.heap.size ≤ i) w1 w3 := HK.out.ch.trans ((hc2.trans hV3.ch).mono fun _ _ f => f.elim)
      have hxH := (hcw.block H (blk_lt (o := .cells (supC sp0) 25 (0, 0)) HZ.out.cx) (fun f => by
        have := blk_lt (o := .cells (supC sp0) 25 (0, 0)) HZ.out.cx
        rcases f with f | f
        · have := HFW.out H f; have := HHW.out; omega
        · omega)).trans HZ.out.cx
      obtain ⟨wn, hn⟩ := stS sp0 hxH
      obtain ⟨wy, hy⟩ := stS x hxH
      have HL3 := Lib.hid (load_su hV3.cx)
      have HBN := Lib.hid (build_su w3)
      have hD3 := HK.out.dev.gr (hc2.trans hV3.ch)
      have HFIN := Lib.hid (show ∀ w' y E, Ch (fun j => j = H) w3 w' → x = y → (if q then (0 : Int) else 22) = E → RdPost base p d w (.returned (.tuple #[.agg (supC y), .int .i64 E])) w' from fun w' y E hc he hE => by
        subst he
        refine ⟨O, hO, ?_, hD3.ch hc fun i hi e => ?_, ?_⟩
        · rw [hx, ← hE]; unfold pkE; rw [hq]
        · have := HFW.out i ((foot_n (supD_n d 4)).1 hi)
          have := HHW.out
          omega
        · exact (HZ.out.ch.via hcw (fun _ _ f => f.elim) (T := fun i => Foot p d i ∨ w1.heap.size ≤ i) (U := Foot p d) (fun i hi f => f.elim id fun g => by have := HZ.out.ch.size; omega)).via hc (fun _ _ f => f) (fun i hi e => by have := HHW.out; omega))
      have HN := Lib.hid hn
      have HY := Lib.hid hy
      have HV3 := Lib.hid hV3
      have HX0 := Lib.hid hx0
      rw [← hx, ← hq]
      clear hO hc2 hx hq hx0 hV3 hcw hxH hn hy hD3 HP s
      cases q
      · have HF := Lib.hid (HFIN.out wn sp0 22 HN.out.ch (HX0.out rfl) rfl)
        clear HFIN
        go_wp2_with (first
          | ((with_reducible refine wpList_isOp (.alloc 25) rfl ?_); refine wpList_making _ wz rfl 25 rfl (supC sp0) H3 (zero_su _) (by exact HV3.out.sz) (by exact HV3.out.al) ?_)
          | ((with_reducible refine wpList_isOp (.store 25 (.tmp 8) (.tmp 30)) rfl ?_); refine wpList_storing _ w3 rfl 25 (.tmp 8) (.tmp 30) rfl (.agg (supC x)) ⟨H3, 0, none⟩ rfl rfl (by exact HV3.out.st) ?_)
          | ((with_reducible refine wpList_isOp (.build 25 #[]) rfl ?_); refine wpList_building _ rfl 25 #[] rfl _ (by exact HBN.out) ?_)
          | ((with_reducible refine wpList_isOp (.store 25 (.tmp 2) (.tmp 34)) rfl ?_); refine wpList_storing _ wn rfl 25 (.tmp 2) (.tmp 34) rfl (.agg (supC sp0)) ⟨H, 0, none⟩ rfl rfl (by exact HN.out.st) ?_)
          | fail)
        exact bodyPost_ret (v := .tuple #[.agg (supC sp0), .int .i64 22]) (results_su Try.results21 _ _ H sp0 rfl HN.out.cx) rfl HF.out
      · have HF := Lib.hid (HFIN.out wy x 0 HY.out.ch rfl rfl)
        clear HFIN
        go_wp2_with (first
          | ((with_reducible refine wpList_isOp (.alloc 25) rfl ?_); refine wpList_making _ wz rfl 25 rfl (supC sp0) H3 (zero_su _) (by exact HV3.out.sz) (by exact HV3.out.al) ?_)
          | ((with_reducible refine wpList_isOp (.store 25 (.tmp 8) (.tmp 30)) rfl ?_); refine wpList_storing _ w3 rfl 25 (.tmp 8) (.tmp 30) rfl (.agg (supC x)) ⟨H3, 0, none⟩ rfl rfl (by exact HV3.out.st) ?_)
          | ((with_reducible refine wpList_isOp (.load 25 (.tmp 8)) rfl ?_); refine wpList_loading _ rfl 25 (.tmp 8) rfl (.agg (supC x)) ⟨H3, 0, none⟩ rfl (by exact HL3.out) ?_)
          | ((with_reducible refine wpList_isOp (.store 25 (.tmp 2) (.tmp 35)) rfl ?_); refine wpList_storing _ wy rfl 25 (.tmp 2) (.tmp 35) rfl (.agg (supC x)) ⟨H, 0, none⟩ rfl rfl (by exact HY.out.st) ?_)
          | fail)
        exact bodyPost_ret (v := .tuple #[.agg (supC x), .int .i64 0]) (results_su Try.results21 _ _ H x rfl HY.out.cx) rfl HF.out
#print axioms supRead_any
end Go.Proofs.Ytjdknebifcdicaa
