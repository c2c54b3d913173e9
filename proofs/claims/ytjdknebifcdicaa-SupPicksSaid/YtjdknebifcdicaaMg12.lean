/-
  What was sealed is opened as it was; what was changed by up to four bytes in a row, or is all noughts, is no block: in plain words. Regions that draw their order, within a round of a range over a function: what the plain calculus shows of every order serves there, too.
-/
import Derived.Test.YtjdknebifcdicaaMg11
import Derived.Test.YtjdknebifcdicaaMg1
import Derived.RangeFuncNested
import Derived.RangeFuncBox
import Derived.RangeFuncLeaves
import Derived.RangeFuncCalls
import Derived.OwnWalkIn
import Derived.TacticsInMore
import Derived.LoopNIn
import Derived.LoopIn
import Derived.StillTail
import Derived.StillTactics
import Derived.OrdersHeld
namespace Go.Proofs.Ytjdknebifcdicaa
open Go.RowKit
set_option linter.unusedVariables false
set_option maxRecDepth 100000

theorem secZ_congr {a b : Bk} (hk : a.kind = b.kind) (hv : a.vol = b.vol) (ha : a.addr = b.addr) (he : a.epoch = b.epoch) (hs : a.seq = b.seq) (hl : a.len = b.len) (hz : ∀ c, c < b.len → a.z c = b.z c) (c : Nat) : secZ a c = secZ b c := by
  have hh : headZ a = headZ b := by
    unfold headZ f1 f2 f3
    rw [hk, hv, ha, he, hs, hl]
  unfold secZ
  rw [hh, hl]
  split
  · rfl
  · split
    · exact hz _ (by omega)
    · rfl
theorem sectZ_congr {a b : Bk} (h : ∀ c, secZ a c = secZ b c) (c : Nat) : sectZ a c = sectZ b c := by
  unfold sectZ Crc.sealZ
  split
  · exact h c
  · rw [Crc.sumZ_congr fun i _ => h i]
theorem sectZ_num {b : Bk} (i : Nat) (hi : i < 4) (hx : f2 b i < 4294967296) : numZ (sectZ b) (4 + i * 4) = f2 b i := by
  have h := fun j (hj : j < 4) => (sectZ_front (b := b) (show 4 + i * 4 + j < 252 by omega)).trans (secZ_num i j hi hj)
  unfold numZ
  rw [show 4 + i * 4 = 4 + i * 4 + 0 from rfl, h 0 (by omega), Nat.add_zero, h 1 (by omega), h 2 (by omega), h 3 (by omega), Crc.byteOf_le4 hx]
structure Same (r b : Bk) : Prop where
  kind : r.kind = b.kind
  vol : r.vol = b.vol
  addr : r.addr = b.addr
  epoch : r.epoch = b.epoch
  seq : r.seq = b.seq
  len : r.len = b.len
  z : ∀ c, c < b.len → r.z c = b.z c
theorem back {b : Bk} (h : mayB b = true) (V : Value) : Same (readB V (sectZ b)) b := by
  obtain ⟨hn, hl⟩ := mayB_iff.1 h
  obtain ⟨k1, k2⟩ := hn.kind
  obtain ⟨v1, v2⟩ := hn.vol
  obtain ⟨a1, a2⟩ := hn.addr
  obtain ⟨e1, e2⟩ := hn.epoch
  obtain ⟨s1, s2⟩ := hn.seq
  have hlong : blkLong (sectZ b) = b.len := by
    unfold blkLong
    have l0 := (sectZ_front (b := b) (show 20 + 0 < 252 by omega)).trans (secZ_len 0 (by omega))
    have l1 := (sectZ_front (b := b) (show 20 + 1 < 252 by omega)).trans (secZ_len 1 (by omega))
    rw [Nat.add_zero] at l0
    rw [l0, l1]
    unfold Crc.byteOf
    simp only [Nat.reducePow]
    omega
  refine ⟨?_, ?_, ?_, ?_, ?_, ?_, fun c hc => ?_⟩
  · show ((sectZ b 2 : Nat) : Int) = b.kind
    rw [sectZ_front (by omega), secZ_first 2 (by omega) (by show b.kind.toNat < 256; omega)]
    show (b.kind.toNat : Int) = b.kind
    omega
  · show ((numZ (sectZ b) 4 : Nat) : Int) = b.vol
    have := sectZ_num (b := b) 0 (by omega) (by show b.vol.toNat < _; omega)
    rw [show 4 = 4 + 0 * 4 from rfl, this]
    show (b.vol.toNat : Int) = b.vol
    omega
  · show ((numZ (sectZ b) 8 : Nat) : Int) = b.addr
    have := sectZ_num (b := b) 1 (by omega) (by show b.addr.toNat < _; omega)
    rw [show 8 = 4 + 1 * 4 from rfl, this]
    show (b.addr.toNat : Int) = b.addr
    omega
  · show ((numZ (sectZ b) 12 : Nat) : Int) = b.epoch
    have := sectZ_num (b := b) 2 (by omega) (by show b.epoch.toNat < _; omega)
    rw [show 12 = 4 + 2 * 4 from rfl, this]
    show (b.epoch.toNat : Int) = b.epoch
    omega
  · show ((numZ (sectZ b) 16 : Nat) : Int) = b.seq
    have := sectZ_num (b := b) 3 (by omega) (by show b.seq.toNat < _; omega)
    rw [show 16 = 4 + 3 * 4 from rfl, this]
    show (b.seq.toNat : Int) = b.seq
    omega
  · show (if blkLong (sectZ b) ≤ 228 then blkLong (sectZ b) else 228) = b.len
    rw [hlong, if_pos hl]
  · show sectZ b (24 + c) = b.z c
    rw [sectZ_front (by omega), secZ_body c hc]
theorem Same.may {r b : Bk} (h : Same r b) : mayB r = mayB b := by
  unfold mayB numB kindB wordsB
  rw [h.kind, h.vol, h.addr, h.epoch, h.seq, h.len]
theorem Same.sect {r b : Bk} (h : Same r b) (c : Nat) : sectZ r c = sectZ b c := sectZ_congr (secZ_congr h.kind h.vol h.addr h.epoch h.seq h.len h.z) c
theorem Same.like {r b : Bk} (h : Same r b) : likeB b r = true := by
  unfold likeB
  rw [h.kind, h.vol, h.addr, h.epoch, h.seq]
  have : eqB b.len r.len b.z r.z = true := decide_eq_true ⟨h.len.symm, fun c hc => (h.z c hc).symm⟩
  rw [this]
  simp
theorem opensB_own {b : Bk} (h : mayB b = true) : opensB 256 (sectZ b) = true := by
  have s := back h undef
  rw [opensB_at, s.may, h, Bool.true_and]
  exact decide_eq_true ⟨rfl, fun c _ => s.sect c⟩
theorem openE_own {b : Bk} (h : mayB b = true) : openQ 256 (sectZ b) = 0 := openE_zero.2 (opensB_own h)
theorem class_own {b want : Bk} (h : mayB b = true) : classOf 256 (sectZ b) want = classQ (b.vol != want.vol) (b.addr != want.addr) (b.kind != want.kind) (b.epoch != want.epoch) (b.seq != want.seq) := by
  have s := back h undef
  rw [classOf_yes (opensB_own h) undef rfl, s.kind, s.vol, s.addr, s.epoch, s.seq]
theorem class_self {b want : Bk} (h : mayB b = true) (hk : b.kind = want.kind) (hv : b.vol = want.vol) (ha : b.addr = want.addr) (he : b.epoch = want.epoch) (hs : b.seq = want.seq) : classOf 256 (sectZ b) want = 1 := by
  rw [class_own h, hk, hv, ha, he, hs]
  simp [classQ]
/-- What opens is whole. -/
theorem opens_whole {z : Nat → Nat} (h : opensB 256 z = true) : Crc.wholeB 256 z = true := by
  rw [opensB_at, Bool.and_eq_true] at h
  have he := (of_decide_eq_true h.2).2
  rw [Crc.wholeB_congr (n := 256) (y := sectZ (readB undef z)) fun i hi => (he i hi).symm]
  exact decide_eq_true Crc.sealed_whole
theorem opens_zero : opensB 256 (fun _ => 0) = false := by
  rw [opensB_at]
  have : eqB 256 256 (sectZ (readB undef fun _ => 0)) (fun _ => 0) = false := decide_eq_false fun q => by
    have e0 := q.2 0 (by omega)
    rw [sectZ_front (by omega), secZ_first 0 (by omega) (by show 81 < 256; omega)] at e0
    cases e0
  rw [this, Bool.and_false]
theorem class_zero (want : Bk) : classOf 256 (fun _ => 0) want = 4 := classOf_no opens_zero
theorem class_few {b want : Bk} {y : Nat → Nat} {a : Nat} (hb : Bytes b.len b.z) (hy : Bytes 4 y) (ha : a ≤ 252) (hf : fewB y 4 = true) : classOf 256 (fewZ (sectZ b) y a 4) want = 4 := by
  refine classOf_no ?_
  have hw : Crc.wholeB 256 (fewZ (sectZ b) y a 4) = false := by
    have := few_whole (n := 252) (secZ_b hb 252) hy ha
    rw [hf] at this
    exact this
  cases h : opensB 256 (fewZ (sectZ b) y a 4)
  · rfl
  · rw [opens_whole h] at hw
    cases hw
#print axioms class_own
#print axioms class_few
end Go.Proofs.Ytjdknebifcdicaa
namespace Go.Proofs.Ytjdknebifcdicaa
open Go.RowKit
set_option linter.unusedVariables false
set_option maxRecDepth 100000

section
variable {P : Program} {ops : Array Oper} {Q : Exit → Act → World → Prop}
theorem rowsIn_of {n : Nat} {row : String} {args : Array Value} {w : World} {R : Value → World → Prop} (h : Rows P row args w R) : RowsIn Fence.wide n P row args w R :=
  fun c cs _ => let ⟨v, w', r, s⟩ := h c cs; ⟨v, w', r, stepsIn_wide.2 s⟩
theorem operIn_of {o : Oper} {a : Act} {w : World} {K : Act → World → Prop} {l n : Nat} (hnd : ∀ c, o.op ≠ .defer c) (h : o.wp P a w K Q) : o.wpIn (Fence.wide.inRound l) n P a w K Q := by
  refine ⟨fun _ _ => trivial, ?_⟩
  rw [Fence.inRound_round, Oper.semAt_some _ _ _ hnd]
  unfold Oper.wp at h
  generalize (execOp a.eval o).run P w = r at *
  have hd : (Fence.wide.inRound l).depth.isSome = true → 1 ≤ n := fun e => by simp [Fence.wide, Fence.inRound] at e
  cases r with
  | ok x w' =>
    cases x <;> simp only [Oper.upon] at h <;> simp only [Oper.uponIn] <;> first
      | exact h
      | exact ⟨hd, (callsIn_wide.2 h).mono (fun e w'' he => by cases e <;> exact he)⟩
      | exact ⟨hd, rowsIn_of h⟩
      | exact h.elim
  | halt x w' => cases x <;> simp only [Oper.upon] at h <;> simp only [Oper.uponIn] <;> first | exact h | exact h.elim
def noDefer (ops : Array Oper) : Bool := ops.all fun o => match o.op with | .defer _ => false | _ => true
theorem noDefer_spec (h : noDefer ops = true) {j : Nat} {o : Oper} (ho : ops[j]? = some o) (c : Call) : o.op ≠ .defer c := fun e => by
  have h1 := Array.all_eq_true_iff_forall_mem.1 h o (Array.mem_of_getElem? ho)
  rw [e] at h1
  cases h1
theorem opsIn_of {l n : Nat} (hnd : noDefer ops = true) (hq : ¬ LetsOut Q) : ∀ (L : List Nat) (a : Act) (w : World), wpOps P ops Q L a w → wpOpsIn (Fence.wide.inRound l) n P ops Q L a w
  | [], _, _, h => h
  | i :: rest, a, w, h => by
    simp only [wpOps] at h
    simp only [wpOpsIn]
    cases ho : ops[i]? with
    | none => simp only [ho] at h; exact opsIn_of hnd hq rest _ _ h
    | some o =>
      simp only [ho] at h ⊢
      split
      · rename_i hw
        simp only [hw, if_true] at h
        rcases h with h | ⟨_, h⟩
        · exact operIn_of (noDefer_spec hnd ho) (Oper.wp_mono (fun a w => opsIn_of hnd hq rest a w) h)
        · exact absurd h hq
      · rename_i hw
        simp only [hw] at h
        exact ⟨fun _ _ => trivial, opsIn_of hnd hq rest _ _ h⟩
/-- In a round, whichever order. -/
theorem wpIn_round_any {id l n : Nat} {a : Act} {w : World} (hm : P.follows .mixedOrders = true) (hnd : noDefer ops = true) (hq : ¬ LetsOut Q)
    (h : wpAny P .any ops Q ops.size (Array.replicate ops.size false) a { w with drawn := w.drawn + 1 }) : (Code.region id ops true).wpIn (Fence.wide.inRound l) n P Q a w :=
  wpIn_region_draw fun t => by
    simp only [Region.schedule, hm, Bool.true_or, if_true]
    exact opsIn_of hnd hq _ _ _ (wpAny_sound ops.size t _ a _ h)
theorem wpIn_round_held {id l n : Nat} {a : Act} {w : World} (S : World → Prop) (hm : P.follows .mixedOrders = true) (hnd : noDefer ops = true) (hq : ¬ LetsOut Q)
    (h : wpAnyH P .any ops Q S ops.size (Array.replicate ops.size false) a { w with drawn := w.drawn + 1 }) : (Code.region id ops true).wpIn (Fence.wide.inRound l) n P Q a w :=
  wpIn_round_any hm hnd hq (wpAny_of_held _ _ _ _ h)
/-- In a round: a region that reads, and ends in a chain that waits for all of that. -/
theorem wpIn_round_tail {id l n : Nat} {a : Act} {w : World} {L : List Oper} (k : Nat) (hm : P.follows .mixedOrders = true) (hnd : noDefer L.toArray = true) (hq : ¬ LetsOut Q) (hB : Region.lexTailB .any L.toArray k = true)
    (h : wpStill P L.toArray { w with drawn := w.drawn + 1 } (fun a' => wpList P L.toArray Q (L.drop k) a' { w with drawn := w.drawn + 1 }) (L.take k) a) : (Code.region id L.toArray true).wpIn (Fence.wide.inRound l) n P Q a w := by
  simp only [Region.lexTailB, Bool.and_eq_true, decide_eq_true_eq] at hB
  obtain ⟨⟨⟨⟨hsel, hn⟩, hs⟩, hc⟩, hlex⟩ := hB
  have hn' : k < L.length := by simpa using hn
  have htl : (L.take k).length = k := by simp; omega
  have hdl : (L.drop k).length = L.toArray.size - k := by simp
  have inv0 : HeadInv .any L.toArray k (Array.replicate L.toArray.size false) :=
    ⟨by simp, fun j oj _ hl => (by rw [getD_replicate_false] at hl; cases hl), fun t _ ht => getD_in (by simpa using ht) (getD_replicate_false _ _)⟩
  have H := wpAnyL_lex (md := .any) (g := L.toArray.size - k) hsel hs hc hn (L.take k) 0 _ a (fun j hj => by
    have hj' : j < k := by rw [htl] at hj; exact hj
    simp [hj']) (by simpa using htl) inv0 (by rw [htl]; exact hlex) h
  refine wpIn_round_any hm hnd hq ?_
  have := wpAny_of_head (Q' := Q) (g := L.toArray.size - k) (fun listed a' hL => by
    have := wpAny_of_seq (md := .any) (Q' := Q) (L.drop k) k listed a' { w with drawn := w.drawn + 1 } (fun j => by simp [List.getElem?_drop]) (by rw [hdl]; exact hL.1) hL.2
    rwa [hdl] at this) _ _ _ H
  rw [htl, show k + (L.toArray.size - k) = L.toArray.size by omega] at this
  exact this
end
#print axioms wpIn_round_held
#print axioms wpIn_round_tail
end Go.Proofs.Ytjdknebifcdicaa
