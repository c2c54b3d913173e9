/-
  disk.faults (a map of what each kind does), and a look into it, walked.
-/
import Derived.Test.YtjibfoplihaabaaMg11
import Derived.ChangeMaps5
import Derived.OrdersHeld
import Derived.BigRegion
namespace Go.Proofs.Ytjibfoplihaabaa
open Go.RowKit
set_option linter.unusedVariables false
set_option maxRecDepth 100000

def fnV (f : Nat) : Value := .func (.func f) #[] #[]
def ent (k : Int) (f c : Nat) : MapEntry := { key := .int .i64 k, val := fnV f, born := c }
def fmap : Array MapEntry := #[ent 1 48 0, ent 2 49 1, ent 3 50 2, ent 4 51 3, ent 5 52 4]
theorem under_map : Try.prog.underlying 83 = some (.map 3 81) := by kernel_rfl
theorem zero_fn (w : World) : (zeroValue 81).run Try.prog w = .ok .nilFunc w := by
  have h : (Try.prog.info? 81).map (·.zero) = some (some .nilFunc) := by kernel_rfl
  cases hq : Try.prog.info? 81 with
  | none => rw [hq] at h; cases h
  | some i => rw [hq] at h; simp at h; simp [zeroValue, typeInfo, hq, h]
theorem chk (e : Bool) (k : Int) (w : World) : (Instr.checkKey e 10000 3 (.int .i64 k)).run Try.prog w = .ok () w := MapKept.run_checkKey Try.underlying3 (by simp [MapKept.IsKey]) e 9999
theorem upd_alloc (w0 : World) (es : Array MapEntry) (c : Nat) (k : Int) (v : Value) (hn : Instr.findNow (.int .i64) (.int .i64 k) es.toList 0 = some none) :
    (Instr.mapUpdate 83 (.map (some w0.heap.size)) (.int .i64 k) v).run Try.prog (w0.alloc (.map es c)) = .ok () (w0.alloc (.map (es.push { key := .int .i64 k, val := v, born := c }) (c + 1))) := by
  have hb : (w0.alloc (.map es c)).heap[w0.heap.size]? = some (.map es c) := heap_alloc_new _ _
  have he : ({ (w0.alloc (.map es c)) with heap := (w0.alloc (.map es c)).heap.setIfInBounds w0.heap.size (.map (es.push { key := .int .i64 k, val := v, born := c }) (c + 1)) } : World) = w0.alloc (.map (es.push { key := .int .i64 k, val := v, born := c }) (c + 1)) := by
    simp only [World.alloc]
    congr 1
    apply Array.ext_getElem?
    intro i
    by_cases h : w0.heap.size = i
    · subst h
      simp
    · have h' : ¬ i = w0.heap.size := fun e => h e.symm
      simp [h, h', Array.getElem?_push]
  simp only [Instr.mapUpdate, Sem.run_bind, run_underlying under_map, Result.andThen_ok, MapKept.run_getObj_map hb, chk, Instr.findKey, run_underlying Try.underlying3, hn, Sem.run_pure, MapKept.run_setObj_map _ hb, he]
theorem look_map (w : World) (H : Nat) (k : Int) (hb : w.heap[H]? = some (.map fmap 5)) (v : Value) (b : Bool)
    (h : (match Instr.findNow (.int .i64) (.int .i64 k) fmap.toList 0 with | some (some x) => (x.2, true) | _ => (.nilFunc, false)) = (v, b)) (hs : (Instr.findNow (.int .i64) (.int .i64 k) fmap.toList 0).isSome = true) :
    (Instr.lookup 83 (.map (some H)) (.int .i64 k) true).run Try.prog w = .ok (.tuple #[v, .bool b]) w := by
  cases hq : Instr.findNow (.int .i64) (.int .i64 k) fmap.toList 0 with
  | none => rw [hq] at hs; cases hs
  | some r =>
    rw [hq] at h
    cases r with
    | none =>
      injection h with h1 h2
      subst h1
      subst h2
      simp only [Instr.lookup, Sem.run_bind, run_underlying under_map, Result.andThen_ok, MapKept.run_getObj_map hb, Sem.run_pure, chk, Instr.findKey, run_underlying Try.underlying3, hq, zero_fn, ↓reduceIte]
    | some x =>
      injection h with h1 h2
      subst h1
      subst h2
      simp only [Instr.lookup, Sem.run_bind, run_underlying under_map, Result.andThen_ok, MapKept.run_getObj_map hb, Sem.run_pure, chk, Instr.findKey, run_underlying Try.underlying3, hq, ↓reduceIte]
#print axioms look_map
theorem wpList_inserting {P : Program} {ops : Array Oper} {rest : List Oper} {o : Oper} {a : Act} {Q : Exit → Act → World → Prop} (w w' : World) (hgd : o.guard = none) (t : TypeId) (m k x : Operand) (ho : o.op = .insert t m k x) {mv kv xv : Value} (hm : a.eval m = mv) (hk : a.eval k = kv) (hx : a.eval x = xv)
    (hr : (Instr.mapUpdate t mv kv xv).run P w = .ok () w') (h : wpList P ops Q rest (a.put o.dst undef) w') : wpList P ops Q (o :: rest) a w := by
  refine wpList_plain hgd fun K hK => ?_
  unfold Oper.wp execOp
  simp only [ho, hm, hk, hx, Sem.run_bind, Sem.run_pure, Result.andThen_ok, hr]
  exact hK _ _ h
set_option maxHeartbeats 800000 in
theorem faults_any (w : World) : Calls Try.prog 34 #[] w fun e w' => e = .returned (.map (some w.heap.size)) ∧ w' = w.alloc (.map fmap 5) := by
  have u1 : (Instr.mapUpdate 83 (.map (some w.heap.size)) (.int .i64 1) (fnV 48)).run Try.prog (w.alloc (.map #[] 0)) = .ok () (w.alloc (.map #[ent 1 48 0] 1)) := upd_alloc w #[] 0 1 (fnV 48) rfl
  have u2 : (Instr.mapUpdate 83 (.map (some w.heap.size)) (.int .i64 2) (fnV 49)).run Try.prog (w.alloc (.map #[ent 1 48 0] 1)) = .ok () (w.alloc (.map #[ent 1 48 0, ent 2 49 1] 2)) := upd_alloc w #[ent 1 48 0] 1 2 (fnV 49) rfl
  have u3 : (Instr.mapUpdate 83 (.map (some w.heap.size)) (.int .i64 3) (fnV 50)).run Try.prog (w.alloc (.map #[ent 1 48 0, ent 2 49 1] 2)) = .ok () (w.alloc (.map #[ent 1 48 0, ent 2 49 1, ent 3 50 2] 3)) := upd_alloc w #[ent 1 48 0, ent 2 49 1] 2 3 (fnV 50) rfl
  have u4 : (Instr.mapUpdate 83 (.map (some w.heap.size)) (.int .i64 4) (fnV 51)).run Try.prog (w.alloc (.map #[ent 1 48 0, ent 2 49 1, ent 3 50 2] 3)) = .ok () (w.alloc (.map #[ent 1 48 0, ent 2 49 1, ent 3 50 2, ent 4 51 3] 4)) := upd_alloc w #[ent 1 48 0, ent 2 49 1, ent 3 50 2] 3 4 (fnV 51) rfl
  have u5 : (Instr.mapUpdate 83 (.map (some w.heap.size)) (.int .i64 5) (fnV 52)).run Try.prog (w.alloc (.map #[ent 1 48 0, ent 2 49 1, ent 3 50 2, ent 4 51 3] 4)) = .ok () (w.alloc (.map #[ent 1 48 0, ent 2 49 1, ent 3 50 2, ent 4 51 3, ent 5 52 4] 5)) := upd_alloc w #[ent 1 48 0, ent 2 49 1, ent 3 50 2, ent 4 51 3] 4 5 (fnV 52) rfl
  have hmm := run_makeMap (P := Try.prog) 83 w
  obtain ⟨H, hH⟩ : ∃ H, H = w.heap.size := ⟨_, rfl⟩
  rw [← hH] at u1 u2 u3 u4 u5 hmm ⊢
  obtain ⟨w0, hw0⟩ : ∃ w0, w0 = w.alloc (.map #[] 0) := ⟨_, rfl⟩
  obtain ⟨w1, hw1⟩ : ∃ w1, w1 = w.alloc (.map #[ent 1 48 0] 1) := ⟨_, rfl⟩
  obtain ⟨w2, hw2⟩ : ∃ w2, w2 = w.alloc (.map #[ent 1 48 0, ent 2 49 1] 2) := ⟨_, rfl⟩
  obtain ⟨w3, hw3⟩ : ∃ w3, w3 = w.alloc (.map #[ent 1 48 0, ent 2 49 1, ent 3 50 2] 3) := ⟨_, rfl⟩
  obtain ⟨w4, hw4⟩ : ∃ w4, w4 = w.alloc (.map #[ent 1 48 0, ent 2 49 1, ent 3 50 2, ent 4 51 3] 4) := ⟨_, rfl⟩
  obtain ⟨w5, hw5⟩ : ∃ w5, w5 = w.alloc (.map #[ent 1 48 0, ent 2 49 1, ent 3 50 2, ent 4 51 3, ent 5 52 4] 5) := ⟨_, rfl⟩
  rw [← hw0] at u1 hmm
  rw [← hw1] at u1 u2
  rw [← hw2] at u2 u3
  rw [← hw3] at u3 u4
  rw [← hw4] at u4 u5
  rw [← hw5] at u5
  rw [show fmap = #[ent 1 48 0, ent 2 49 1, ent 3 50 2, ent 4 51 3, ent 5 52 4] from rfl, ← hw5]
  have U1 := Lib.hid u1
  have U2 := Lib.hid u2
  have U3 := Lib.hid u3
  have U4 := Lib.hid u4
  have U5 := Lib.hid u5
  clear u1 u2 u3 u4 u5 hw0 hw1 hw2 hw3 hw4 hw5 hH
  go_enter Try.func34, Try.ntmps34
  go_wp2_with ((with_reducible refine wpList_same ?_); first
    | refine wpList_inserting _ w1 rfl 83 (.tmp 1) (.const (.int .i64 1)) (.func 48) rfl (mv := .map (some H)) (kv := .int .i64 1) (xv := fnV 48) rfl rfl rfl (by exact U1.out) ?_
    | refine wpList_inserting _ w2 rfl 83 (.tmp 1) (.const (.int .i64 2)) (.func 49) rfl (mv := .map (some H)) (kv := .int .i64 2) (xv := fnV 49) rfl rfl rfl (by exact U2.out) ?_
    | refine wpList_inserting _ w3 rfl 83 (.tmp 1) (.const (.int .i64 3)) (.func 50) rfl (mv := .map (some H)) (kv := .int .i64 3) (xv := fnV 50) rfl rfl rfl (by exact U3.out) ?_
    | refine wpList_inserting _ w4 rfl 83 (.tmp 1) (.const (.int .i64 4)) (.func 51) rfl (mv := .map (some H)) (kv := .int .i64 4) (xv := fnV 51) rfl rfl rfl (by exact U4.out) ?_
    | refine wpList_inserting _ w5 rfl 83 (.tmp 1) (.const (.int .i64 5)) (.func 52) rfl (mv := .map (some H)) (kv := .int .i64 5) (xv := fnV 52) rfl rfl rfl (by exact U5.out) ?_)
  go_ret
  exact ⟨rfl, rfl⟩
#print axioms faults_any
end Go.Proofs.Ytjibfoplihaabaa
