/-
  RingFollows, walked.
-/
import Derived.Test.YteleknojohnlbaaGreatMk45
import Derived.Test.YteleknojohnlbaaGreatMk46
import Derived.Test.YteleknojohnlbaaGreatMk49
namespace Go.Proofs.YteleknojohnlbaaGreat
open Go.RowKit
set_option linter.unusedVariables false
set_option maxRecDepth 100000
set_option linter.unusedSimpArgs false
theorem Ch.below {a b : World} (h : Ch (fun _ => False) a b) : Below a.heap.size a b := ⟨h.os, h.tape, h.output, h.size, fun i hi => h.block i hi (fun f => f)⟩
theorem end_count {sm : Pn → Int} : ∀ (f : Nat) (P : List Pn) (t : Tl), (endR sm f P t).txs.length ≤ t.txs.length + P.length
  | 0, P, t => Nat.le_add_right _ _
  | f + 1, P, t => by
    show (if wholeR P = 0 then t else endR sm f (P.drop (wholeR P)) (stepT sm P t)).txs.length ≤ _
    split
    · exact Nat.le_add_right _ _
    · rename_i h
      refine Nat.le_trans (end_count f _ _) ?_
      have := whole_le P
      rw [List.length_drop]
      show (t.txs ++ [_]).length + _ ≤ _
      rw [List.length_append]
      simp only [List.length_cons, List.length_nil]
      omega
def FolAny (tl : Tl) (ep E : Int) (w : World) (e : Ending) (w' : World) : Prop := ∃ A C M, e = .returned (.tuple #[.agg (tlC tl ep (.slice A M.length C)), .int .i64 E]) ∧ M.map Bv.B = tl.txs ∧ RwO kdB elB w w' (.slice A M.length C) M ∧ Ch (fun _ => False) w w'
theorem any_of_post {m : Mi} {start : Nat} {chain : Int} {w w' : World} {e : Ending} (h : FolPost m start chain w e w') : FolAny (if (allI m start chain).2 then tl0 else tailR (sumM m) (allI m start chain).1 start chain) (if (allI m start chain).2 then 0 else epR (allI m start chain).1) (if (allI m start chain).2 then 22 else 0) w e w' := by
  obtain ⟨V, rfl, ⟨A, C, M, rfl, hM, hO⟩, hc⟩ := h
  exact ⟨A, C, M, rfl, hM, hO, hc⟩
theorem any_of_no {w w' : World} {e : Ending} (h : FolNo w e w') : FolAny tl0 0 1 w e w' := by
  obtain ⟨rfl, hc⟩ := h
  exact ⟨none, 0, [], rfl, rfl, RwO.start _ _ _ _, hc⟩
theorem fol_count {m : Mi} (hm : m.g.Ok) (start : Nat) (chain : Int) : (if (allI m start chain).2 then tl0 else tailR (sumM m) (allI m start chain).1 start chain).txs.length ≤ 512 := by
  split
  · exact Nat.zero_le _
  · have h1 := run_len m m.g.W pn0 chain start
    have h2 := hm.w2
    unfold tailR
    refine Nat.le_trans (end_count _ _ _) ?_
    show 0 + (allI m start chain).1.length ≤ _
    unfold allI
    omega
theorem follow_both {A0 A1 : Option Addr} {n0 n1 C0 C1 : Nat} {g0 g1 : Nat → Br} (vol start chain : Int) (g : Ge) (w : World) (h0 : BsV w A0 n0 C0 (fun c => (g0 c).n) (fun c => (g0 c).z)) (h1 : BsV w A1 n1 C1 (fun c => (g1 c).n) (fun c => (g1 c).z)) :
    ∃ tl ep E, tl.txs.length ≤ 512 ∧ (∀ w', Ch (fun _ => False) w w' → Calls Tryz.prog 21 #[.slice A0 n0 C0, .slice A1 n1 C1, .int .i64 vol, .agg (geC g), .int .i64 start, .int .i64 chain] w' (FolAny tl ep E w')) ∧ ∀ w', Ch (fun _ => False) w w' → Calls Tryz.prog 22 #[.slice A0 n0 C0, .slice A1 n1 C1, .int .i64 vol, .agg (geC g), .int .i64 start, .int .i64 chain] w' (FolAny tl ep E w') := by
  cases hk : okF vol g start chain n0 n1
  · exact ⟨tl0, 0, 1, Nat.zero_le _, fun w' k => (rfollow_no A0 A1 n0 n1 C0 C1 vol start chain g w' hk).mono fun _ _ q => any_of_no q, fun w' k => (r11follow_no A0 A1 n0 n1 C0 C1 vol start chain g w' hk).mono fun _ _ q => any_of_no q⟩
  · unfold okF at hk
    rw [words_fol] at hk
    simp only [Bool.and_eq_true, decide_eq_true_eq] at hk
    obtain ⟨hg, ⟨hv, hs, hc⟩, e0, e1⟩ := hk
    obtain ⟨n, hn, rfl⟩ := may_nat hg
    have hv := inB_true.1 hv
    have hs := inB_true.1 hs
    have hc := inB_true.1 hc
    have e0 : (n0 : Int) = (n.W : Int) := e0
    have e1 : (n1 : Int) = (n.W : Int) := e1
    obtain rfl : n0 = n.W := by omega
    obtain rfl : n1 = n.W := by omega
    obtain ⟨st, rfl⟩ : ∃ st : Nat, start = (st : Int) := ⟨start.toNat, by omega⟩
    obtain ⟨m, hm⟩ : ∃ m : Mi, m = ⟨vol, n, fun c => if c = 0 then A0 else A1, fun c => if c = 0 then C0 else C1, fun c q => if c = 0 then (g0 q).n else (g1 q).n, fun c q => if c = 0 then (g0 q).z else (g1 q).z⟩ := ⟨_, rfl⟩
    have hI : MiIs w m := by
      rw [hm]
      exact ⟨hn, hv, h0, h1⟩
    have hr := fun (w' : World) (k : Ch (fun _ => False) w w') => rfollow_yes m st chain w' (hI.gr k) (by omega) hc
    have hd := fun (w' : World) (k : Ch (fun _ => False) w w') => r11follow_yes m st chain w' (hI.gr k) (by omega) hc
    have hcnt := fol_count hI.ok st chain
    refine ⟨_, (if (allI m st chain).2 then 0 else epR (allI m st chain).1), (if (allI m st chain).2 then 22 else 0), hcnt, fun w' k => ?_, fun w' k => ?_⟩
    · have := (hr w' k).mono fun _ _ q => any_of_post q
      rw [hm] at this ⊢
      exact this
    · have := (hd w' k).mono fun _ _ q => any_of_post q
      rw [hm] at this ⊢
      exact this
set_option maxHeartbeats 12800000 in
theorem ringFollows_of {A0 A1 : Option Addr} {C0 C1 n0 n1 : Nat} {g0 g1 : Nat → Br} (vol : Int) (g : Ge) (start chain : Int) (w : World) (h0 : RowBs w A0 n0 C0 g0) (h1 : RowBs w A1 n1 C1 g1) (hv : N64 vol) (hs : N64 start) (hc : N64 chain) :
    Calls Tryz.prog 4 #[.slice A0 n0 C0, .slice A1 n1 C1, .int .i64 vol, .agg (geC g), .int .i64 start, .int .i64 chain] w (Told w) := by
  obtain ⟨w1, H, hRG⟩ := geR w g
  have HRG := Lib.hid hRG
  have HAW := Lib.hid (rawake_any w1)
  have H0 := Lib.hid (h0.gr hRG.ch)
  have H1 := Lib.hid (h1.gr hRG.ch)
  clear hRG h0 h1 hv hs hc
  go_enter Tryz.func4, Tryz.ntmps4
  go_wp2_with (first | ((with_reducible refine wpList_isOp (.box 23 (.tmp 3)) rfl ?_); refine wpList_boxing _ w1 rfl 23 (.tmp 3) rfl (geC g) H rfl (by exact HRG.out.sz) (by exact HRG.out.al) ?_) | fail)
  refine HAW.out.mono ?_
  rintro e w2 ⟨rfl, hc2⟩
  have HC2 := Lib.hid hc2
  obtain ⟨x0, x1, x2, x3⟩ := HRG.out.x.gr hc2
  have HF0 := Lib.hid (few_any A0 n0 C0 _ w2 ((H0.out.gr hc2).ls))
  have HF1 := Lib.hid (few_any A1 n1 C1 _ w2 ((H1.out.gr hc2).ls))
  clear hc2
  obtain ⟨f0, hf0⟩ : ∃ f, f = (if n0 ≤ 40 then fewTo (fun c => (g0 c).n) 300 n0 else false) := ⟨_, rfl⟩
  obtain ⟨f1, hf1⟩ : ∃ f, f = (if n1 ≤ 40 then fewTo (fun c => (g1 c).n) 300 n1 else false) := ⟨_, rfl⟩
  rw [← hf0] at HF0
  rw [← hf1] at HF1
  have HE0 := Lib.hid hf0
  have HE1 := Lib.hid hf1
  clear hf0 hf1
  go_wp2_with fail
  refine HF0.out.mono ?_
  rintro e w' ⟨rfl, rfl⟩
  go_wp2_with fail
  refine HF1.out.mono ?_
  rintro e w' ⟨rfl, rfl⟩
  cases f0
  · go_wp2
    go_ret
    exact ⟨rfl, HRG.out.ch.trans HC2.out⟩
  cases f1
  · go_wp2
    go_ret
    exact ⟨rfl, HRG.out.ch.trans HC2.out⟩
  have few_of : ∀ {n : Nat} {N : Nat → Nat}, true = (if n ≤ 40 then fewTo N 300 n else false) → n ≤ 40 ∧ ∀ c, c < n → N c ≤ 300 := fun {n N} e => by
    split at e
    · rename_i q; exact ⟨q, fewTo_all e.symm⟩
    · cases e
  obtain ⟨a0, b0⟩ := few_of HE0.out
  obtain ⟨a1, b1⟩ := few_of HE1.out
  obtain ⟨tl, ep, E, hcnt, hr, hd⟩ := follow_both vol start chain g w2 ((H0.out.gr HC2.out).bs (by omega) (fun c hc => Nat.le_trans (b0 c hc) (by omega))) ((H1.out.gr HC2.out).bs (by omega) (fun c hc => Nat.le_trans (b1 c hc) (by omega)))
  have HR := Lib.hid hr
  have HD := Lib.hid hd
  have HCN := Lib.hid hcnt
  clear few_of a0 b0 a1 b1 hcnt hr hd
  go_wp2_with fail
  refine (HR.out w2 (Ch.refl _ w2)).mono ?_
  rintro e w3 ⟨A3, C3, M3, rfl, hM3, hO3, hc3⟩
  obtain ⟨n3, hn3⟩ : ∃ n3, n3 = M3.length := ⟨_, rfl⟩
  have hl3 : M3.length ≤ 512 := by
    have := congrArg List.length hM3
    rw [List.length_map] at this
    have h2 := HCN.out
    omega
  obtain ⟨wz, w4, P, hV4⟩ := varTl tl ep (v := .slice A3 n3 C3) ⟨_, _, _, rfl⟩ w3
  have HRV3 := Lib.hid ((hO3.read (by omega)).gr hV4.ch)
  have HM3 := Lib.hid hM3
  have HL3 := Lib.hid hl3
  have HN3 := Lib.hid hn3
  have HC4 := Lib.hid (hc3.trans hV4.ch)
  have HV4 := Lib.hid hV4
  rw [← hn3]
  clear hO3 hM3 hl3 hn3 hc3 hV4 x0 x1 x2 x3
  obtain ⟨x0, x1, x2, x3⟩ := HRG.out.x.gr (HC2.out.trans HC4.out)
  go_wp2_with (first
    | ((with_reducible refine wpList_isOp (.alloc 40) rfl ?_); refine wpList_making _ wz rfl 40 rfl (tlC tl0 0 (.slice none 0 0)) P (zero_tl _) (by exact HV4.out.sz) (by exact HV4.out.al) ?_)
    | ((with_reducible refine wpList_isOp (.store 40 (.tmp 16) (.tmp 45)) rfl ?_); refine wpList_storing _ w4 rfl 40 (.tmp 16) (.tmp 45) rfl (.agg (tlC tl ep (.slice A3 n3 C3))) ⟨P, 0, none⟩ rfl rfl (by exact HV4.out.st) ?_)
    | fail)
  refine (HD.out w4 HC4.out).mono ?_
  rintro e w5 ⟨A5, C5, M5, rfl, hM5, hO5, hc5⟩
  obtain ⟨n5, hn5⟩ : ∃ n5, n5 = M5.length := ⟨_, rfl⟩
  have hl5 : M5.length ≤ 512 := by
    have := congrArg List.length hM5
    rw [List.length_map] at this
    have h2 := HCN.out
    omega
  obtain ⟨wz6, w6, Q, hV6⟩ := varTl tl ep (v := .slice A5 n5 C5) ⟨_, _, _, rfl⟩ w5
  have hc6 := hc5.trans hV6.ch
  have HSA := Lib.hid (show Calls Tryz.prog 23 #[.agg (tlC tl ep (.slice A3 n3 C3)), .agg (tlC tl ep (.slice A5 n5 C5))] w6 (Ans (.bool true) w6) by
    rw [HN3.out, hn5]
    exact r11same_any tl ep M3 M5 A3 A5 C3 C5 w6 HM3.out hM5 (HRV3.out.gr hc6) ((hO5.read (by omega)).gr hV6.ch) (by have := HL3.out; omega))
  have HLP := Lib.hid (load_tl ((hc6.block P (blk_lt HV4.out.cx) (fun f => f)).trans HV4.out.cx))
  have HLQ := Lib.hid (load_tl hV6.cx)
  have HC6 := Lib.hid (HC4.out.trans hc6)
  have HV6 := Lib.hid hV6
  rw [← hn5]
  clear hO5 hM5 hl5 hn5 hc5 hV6 hc6 x0 x1 x2 x3
  go_wp2_with (first
    | ((with_reducible refine wpList_isOp (.alloc 40) rfl ?_); refine wpList_making _ wz6 rfl 40 rfl (tlC tl0 0 (.slice none 0 0)) Q (zero_tl _) (by exact HV6.out.sz) (by exact HV6.out.al) ?_)
    | ((with_reducible refine wpList_isOp (.store 40 (.tmp 18) (.tmp 55)) rfl ?_); refine wpList_storing _ w6 rfl 40 (.tmp 18) (.tmp 55) rfl (.agg (tlC tl ep (.slice A5 n5 C5))) ⟨Q, 0, none⟩ rfl rfl (by exact HV6.out.st) ?_)
    | ((with_reducible refine wpList_isOp (.load 40 (.tmp 16)) rfl ?_); refine wpList_loading _ rfl 40 (.tmp 16) rfl (.agg (tlC tl ep (.slice A3 n3 C3))) ⟨P, 0, none⟩ rfl (by exact HLP.out) ?_)
    | ((with_reducible refine wpList_isOp (.load 40 (.tmp 18)) rfl ?_); refine wpList_loading _ rfl 40 (.tmp 18) rfl (.agg (tlC tl ep (.slice A5 n5 C5))) ⟨Q, 0, none⟩ rfl (by exact HLQ.out) ?_)
    | fail)
  refine HSA.out.mono ?_
  rintro e w7 ⟨rfl, hc7⟩
  go_wp2
  go_ret
  exact ⟨by simp, (HRG.out.ch.trans HC2.out).trans (HC6.out.trans hc7)⟩
end Go.Proofs.YteleknojohnlbaaGreat
