/-
  The document's word, May and Sector (quartermasterref10), walked.
-/
import Derived.Test.YtjdknebifcdicaaMg25
import Derived.Test.YtjdknebifcdicaaMg33
import Derived.Test.YtjdknebifcdicaaMg10
namespace Go.Proofs.Ytjdknebifcdicaa
open Go.RowKit
set_option linter.unusedVariables false
set_option maxRecDepth 100000

theorem w10_any (n : Int) (w : World) : Calls Try.prog 37 #[.int .i64 n] w fun e w' => e = .returned (.bool (wordS n)) ∧ w = w' := by
  by_cases h1 : 0 ≤ n
  · by_cases h2 : n ≤ 4294967295
    · have HE := Lib.hid (show wordS n = true from inB_true.2 ⟨h1, h2⟩)
      have t1 : decide (0 ≤ n) = true := decide_eq_true h1
      have t2 : decide (n ≤ 4294967295) = true := decide_eq_true h2
      clear h1 h2
      go_enter Try.func37, Try.ntmps37
      go_wp2
      go_ret
      exact ⟨ret_bool HE.out.symm, rfl⟩
    · have HE := Lib.hid (show wordS n = false from decide_eq_false fun q => h2 q.2)
      have t1 : decide (0 ≤ n) = true := decide_eq_true h1
      have t2 : decide (n ≤ 4294967295) = false := decide_eq_false h2
      clear h1 h2
      go_enter Try.func37, Try.ntmps37
      go_wp2
      go_ret
      exact ⟨ret_bool HE.out.symm, rfl⟩
  · have HE := Lib.hid (show wordS n = false from decide_eq_false fun q => h1 q.1)
    have t1 : decide (0 ≤ n) = false := decide_eq_false h1
    clear h1
    go_enter Try.func37, Try.ntmps37
    go_wp2
    go_ret
    exact ⟨ret_bool HE.out.symm, rfl⟩
#print axioms w10_any

/-! ### May -/
def wrdR (x : Sp) : Bool := wordS x.vol && (wordS x.gen && (wordS x.ep && (wordS x.snap && (wordS x.start && wordS x.chain))))
def mayR (x : Sp) : Bool := mayG x.g && (wrdR x && (decide (1 ≤ x.gen) && (((x.area == 0) || (x.area == 1)) && (decide (0 ≤ x.long) && decide (x.long ≤ roomG x.g)))))
theorem mayR_eq (x : Sp) : mayR x = mayS x := by
  rw [Bool.eq_iff_iff, mayS_iff]
  unfold mayR wrdR wordS
  simp only [Bool.and_eq_true, Bool.or_eq_true, inB_true, decide_eq_true_eq, beq_iff_eq]
  constructor
  · rintro ⟨hg, ⟨h1, h2, h3, h4, h5, h6⟩, h7, h8, h9, h10⟩
    exact ⟨h1, h3, h4, h5, h6, ⟨h7, h2.2⟩, by omega, ⟨h9, h10⟩, hg⟩
  · intro m
    have m1 := m.gen
    have m2 := m.area
    exact ⟨m.g, ⟨m.vol, by omega, m.ep, m.snap, m.start, m.chain⟩, m1.1, by omega, m.long.1, m.long.2⟩
set_option maxHeartbeats 12800000 in
theorem rmayS_any (x : Sp) (w : World) : Calls Try.prog 15 #[.agg (supC x)] w (Ans (.bool (mayS x)) w) := by
  obtain ⟨w1, H, hR⟩ := boxR w (supC x) 25
  obtain ⟨x0, x1, x2, x3, x4, x5, x6, x7, x8, x9, x10, x11⟩ := su_x hR.cx
  have HX := Lib.hid (su_x hR.cx)
  have HR := Lib.hid hR
  clear hR
  go_enter Try.func15, Try.ntmps15
  go_wp2_with ((with_reducible refine wpList_isOp (.box 25 (.tmp 0)) rfl ?_); refine wpList_boxing _ w1 rfl 25 (.tmp 0) rfl (supC x) H rfl (by exact HR.out.sz) (by exact HR.out.al) ?_)
  refine (rgmay_any x.g _).mono ?_
  rintro e w2 ⟨rfl, hc2⟩
  have HC := Lib.hid (HR.out.ch.trans hc2)
  clear x0 x1 x2 x3 x4 x5 x6 x7 x8 x9 x10 x11
  obtain ⟨x0, x1, x2, x3, x4, x5, x6, x7, x8, x9, x10, x11⟩ := HX.out.gr hc2
  clear hc2

  obtain ⟨R, hR⟩ : ∃ R, R = roomG x.g := ⟨_, rfl⟩
  have HME := Lib.hid (show mayR x = (mayG x.g && (wrdR x && (decide (1 ≤ x.gen) && (((x.area == 0) || (x.area == 1)) && (decide (0 ≤ x.long) && decide (x.long ≤ R)))))) by rw [hR]; rfl)
  have HRM := Lib.hid (show mayG x.g = true → wrap64 (wrap64 (x.g.st * x.g.k) * 228) = R from fun h => by
    obtain ⟨n, hn, e⟩ := may_nat h
    rw [hR, e]
    exact room_wrap hn)
  clear hR
  have HW := Lib.hid (show wrdR x = (wordS x.vol && (wordS x.gen && (wordS x.ep && (wordS x.snap && (wordS x.start && wordS x.chain))))) from rfl)
  cases hg : mayG x.g
  case false =>
    cases t1 : wordS x.vol
    · have hq : wrdR x = false := by rw [HW.out, t1]; rfl
      have HE := Lib.hid (show mayR x = false by rw [HME.out, hq]; simp)
      clear hq
      go_wp2_with (first | (go_at_call 37; refine (w10_any _ _).mono ?_; rintro e w' ⟨rfl, rfl⟩))
      go_ret
      exact ⟨ret_bool (HE.out.symm.trans (mayR_eq x)), HC.out⟩
    cases t2 : wordS x.gen
    · have hq : wrdR x = false := by rw [HW.out, t1, t2]; rfl
      have HE := Lib.hid (show mayR x = false by rw [HME.out, hq]; simp)
      clear hq
      go_wp2_with (first | (go_at_call 37; refine (w10_any _ _).mono ?_; rintro e w' ⟨rfl, rfl⟩))
      go_ret
      exact ⟨ret_bool (HE.out.symm.trans (mayR_eq x)), HC.out⟩
    cases t3 : wordS x.ep
    · have hq : wrdR x = false := by rw [HW.out, t1, t2, t3]; rfl
      have HE := Lib.hid (show mayR x = false by rw [HME.out, hq]; simp)
      clear hq
      go_wp2_with (first | (go_at_call 37; refine (w10_any _ _).mono ?_; rintro e w' ⟨rfl, rfl⟩))
      go_ret
      exact ⟨ret_bool (HE.out.symm.trans (mayR_eq x)), HC.out⟩
    cases t4 : wordS x.snap
    · have hq : wrdR x = false := by rw [HW.out, t1, t2, t3, t4]; rfl
      have HE := Lib.hid (show mayR x = false by rw [HME.out, hq]; simp)
      clear hq
      go_wp2_with (first | (go_at_call 37; refine (w10_any _ _).mono ?_; rintro e w' ⟨rfl, rfl⟩))
      go_ret
      exact ⟨ret_bool (HE.out.symm.trans (mayR_eq x)), HC.out⟩
    cases t5 : wordS x.start
    · have hq : wrdR x = false := by rw [HW.out, t1, t2, t3, t4, t5]; rfl
      have HE := Lib.hid (show mayR x = false by rw [HME.out, hq]; simp)
      clear hq
      go_wp2_with (first | (go_at_call 37; refine (w10_any _ _).mono ?_; rintro e w' ⟨rfl, rfl⟩))
      go_ret
      exact ⟨ret_bool (HE.out.symm.trans (mayR_eq x)), HC.out⟩
    cases t6 : wordS x.chain
    · have hq : wrdR x = false := by rw [HW.out, t1, t2, t3, t4, t5, t6]; rfl
      have HE := Lib.hid (show mayR x = false by rw [HME.out, hq]; simp)
      clear hq
      go_wp2_with (first | (go_at_call 37; refine (w10_any _ _).mono ?_; rintro e w' ⟨rfl, rfl⟩))
      go_ret
      exact ⟨ret_bool (HE.out.symm.trans (mayR_eq x)), HC.out⟩
    have hq : wrdR x = true := by rw [HW.out, t1, t2, t3, t4, t5, t6]; rfl
    have HE := Lib.hid (show mayR x = false by rw [HME.out, hg]; rfl)
    clear hq
    go_wp2_with (first | (go_at_call 37; refine (w10_any _ _).mono ?_; rintro e w' ⟨rfl, rfl⟩))
    go_ret
    exact ⟨ret_bool (HE.out.symm.trans (mayR_eq x)), HC.out⟩
  case true =>
    have hw := HRM.out hg
    cases t1 : wordS x.vol
    · have hq : wrdR x = false := by rw [HW.out, t1]; rfl
      have HE := Lib.hid (show mayR x = false by rw [HME.out, hq]; simp)
      clear hq
      go_wp2_with (first | (go_at_call 37; refine (w10_any _ _).mono ?_; rintro e w' ⟨rfl, rfl⟩))
      go_ret
      exact ⟨ret_bool (HE.out.symm.trans (mayR_eq x)), HC.out⟩
    cases t2 : wordS x.gen
    · have hq : wrdR x = false := by rw [HW.out, t1, t2]; rfl
      have HE := Lib.hid (show mayR x = false by rw [HME.out, hq]; simp)
      clear hq
      go_wp2_with (first | (go_at_call 37; refine (w10_any _ _).mono ?_; rintro e w' ⟨rfl, rfl⟩))
      go_ret
      exact ⟨ret_bool (HE.out.symm.trans (mayR_eq x)), HC.out⟩
    cases t3 : wordS x.ep
    · have hq : wrdR x = false := by rw [HW.out, t1, t2, t3]; rfl
      have HE := Lib.hid (show mayR x = false by rw [HME.out, hq]; simp)
      clear hq
      go_wp2_with (first | (go_at_call 37; refine (w10_any _ _).mono ?_; rintro e w' ⟨rfl, rfl⟩))
      go_ret
      exact ⟨ret_bool (HE.out.symm.trans (mayR_eq x)), HC.out⟩
    cases t4 : wordS x.snap
    · have hq : wrdR x = false := by rw [HW.out, t1, t2, t3, t4]; rfl
      have HE := Lib.hid (show mayR x = false by rw [HME.out, hq]; simp)
      clear hq
      go_wp2_with (first | (go_at_call 37; refine (w10_any _ _).mono ?_; rintro e w' ⟨rfl, rfl⟩))
      go_ret
      exact ⟨ret_bool (HE.out.symm.trans (mayR_eq x)), HC.out⟩
    cases t5 : wordS x.start
    · have hq : wrdR x = false := by rw [HW.out, t1, t2, t3, t4, t5]; rfl
      have HE := Lib.hid (show mayR x = false by rw [HME.out, hq]; simp)
      clear hq
      go_wp2_with (first | (go_at_call 37; refine (w10_any _ _).mono ?_; rintro e w' ⟨rfl, rfl⟩))
      go_ret
      exact ⟨ret_bool (HE.out.symm.trans (mayR_eq x)), HC.out⟩
    cases t6 : wordS x.chain
    · have hq : wrdR x = false := by rw [HW.out, t1, t2, t3, t4, t5, t6]; rfl
      have HE := Lib.hid (show mayR x = false by rw [HME.out, hq]; simp)
      clear hq
      go_wp2_with (first | (go_at_call 37; refine (w10_any _ _).mono ?_; rintro e w' ⟨rfl, rfl⟩))
      go_ret
      exact ⟨ret_bool (HE.out.symm.trans (mayR_eq x)), HC.out⟩
    have hq : wrdR x = true := by rw [HW.out, t1, t2, t3, t4, t5, t6]; rfl
    cases t7 : decide (1 ≤ x.gen)
    · have HE := Lib.hid (show mayR x = false by rw [HME.out, hg, hq, t7]; rfl)
      clear hq
      go_wp2_with (first | (go_at_call 37; refine (w10_any _ _).mono ?_; rintro e w' ⟨rfl, rfl⟩))
      go_ret
      exact ⟨ret_bool (HE.out.symm.trans (mayR_eq x)), HC.out⟩
    by_cases ha0 : x.area = 0
    · have ta : (x.area == 0) = true := by simpa using ha0
      have har : ((x.area == 0) || (x.area == 1)) = true := by rw [ta]; rfl
      clear ha0
      cases t8 : decide (0 ≤ x.long)
      · have HE := Lib.hid (show mayR x = false by rw [HME.out, hg, hq, t7, har, t8]; rfl)
        clear hq har
        go_wp2_with (first | (go_at_call 37; refine (w10_any _ _).mono ?_; rintro e w' ⟨rfl, rfl⟩))
        go_ret
        exact ⟨ret_bool (HE.out.symm.trans (mayR_eq x)), HC.out⟩
      cases t9 : decide (x.long ≤ R)
      · have HE := Lib.hid (show mayR x = false by rw [HME.out, hg, hq, t7, har, t8, t9]; rfl)
        clear hq har
        go_wp2_with (first | (go_at_call 37; refine (w10_any _ _).mono ?_; rintro e w' ⟨rfl, rfl⟩))
        go_ret
        exact ⟨ret_bool (HE.out.symm.trans (mayR_eq x)), HC.out⟩
      · have HE := Lib.hid (show mayR x = true by rw [HME.out, hg, hq, t7, har, t8, t9]; rfl)
        clear hq har
        go_wp2_with (first | (go_at_call 37; refine (w10_any _ _).mono ?_; rintro e w' ⟨rfl, rfl⟩))
        go_ret
        exact ⟨ret_bool (HE.out.symm.trans (mayR_eq x)), HC.out⟩
    have ta : (x.area == 0) = false := by simpa using ha0
    by_cases ha1 : x.area = 1
    · have tb : (x.area == 1) = true := by simpa using ha1
      have har : ((x.area == 0) || (x.area == 1)) = true := by rw [ta, tb]; rfl
      clear ha0 ha1
      cases t8 : decide (0 ≤ x.long)
      · have HE := Lib.hid (show mayR x = false by rw [HME.out, hg, hq, t7, har, t8]; rfl)
        clear hq har
        go_wp2_with (first | (go_at_call 37; refine (w10_any _ _).mono ?_; rintro e w' ⟨rfl, rfl⟩))
        go_ret
        exact ⟨ret_bool (HE.out.symm.trans (mayR_eq x)), HC.out⟩
      cases t9 : decide (x.long ≤ R)
      · have HE := Lib.hid (show mayR x = false by rw [HME.out, hg, hq, t7, har, t8, t9]; rfl)
        clear hq har
        go_wp2_with (first | (go_at_call 37; refine (w10_any _ _).mono ?_; rintro e w' ⟨rfl, rfl⟩))
        go_ret
        exact ⟨ret_bool (HE.out.symm.trans (mayR_eq x)), HC.out⟩
      · have HE := Lib.hid (show mayR x = true by rw [HME.out, hg, hq, t7, har, t8, t9]; rfl)
        clear hq har
        go_wp2_with (first | (go_at_call 37; refine (w10_any _ _).mono ?_; rintro e w' ⟨rfl, rfl⟩))
        go_ret
        exact ⟨ret_bool (HE.out.symm.trans (mayR_eq x)), HC.out⟩
    · have tb : (x.area == 1) = false := by simpa using ha1
      have har : ((x.area == 0) || (x.area == 1)) = false := by rw [ta, tb]; rfl
      have HE := Lib.hid (show mayR x = false by rw [HME.out, hg, hq, t7, har]; rfl)
      clear hq har ha0 ha1
      go_wp2_with (first | (go_at_call 37; refine (w10_any _ _).mono ?_; rintro e w' ⟨rfl, rfl⟩))
      go_ret
      exact ⟨ret_bool (HE.out.symm.trans (mayR_eq x)), HC.out⟩
#print axioms rmayS_any

/-! ### Sector -/
theorem body_split (x : Sp) : ∀ k, k ≤ 9 → bodyL x = prefL x k ++ restS x k
  | 0, _ => (restS_all x).symm
  | k + 1, h => by rw [body_split x k (by omega), restS_next x (by omega), prefL_snoc, List.append_assoc]
theorem body_next (x : Sp) {k : Nat} (h : k < 9) (c : Nat) (hc : c < (Cod.digs (numS x k).toNat).length) : Cod.litZ (bodyL x) ((prefL x k).length + c) = Cod.litZ (Cod.digs (numS x k).toNat) c := by
  rw [body_split x k (by omega), flat_right, restS_next x h, flat_left hc]
theorem num_cells (x : Sp) {c : Nat} (hc : c < 9) : (#[Value.int .i64 x.area, .int .i64 x.snap, .int .i64 x.long, .int .i64 x.start, .int .i64 x.chain, .int .i64 x.g.wal, .int .i64 x.g.st, .int .i64 x.g.k, .int .i64 x.g.m] : Array Value)[c]? = some (.int .i64 (numS x c)) := by
  match c, hc with
  | 0, _ | 1, _ | 2, _ | 3, _ | 4, _ | 5, _ | 6, _ | 7, _ | 8, _ => rfl
theorem supB_is' {w : World} {x : Sp} {i : Int} {V : Value} (h : sokB x i = true) (hr : RowV w V (bodyL x).length (Cod.litZ (bodyL x))) : BkIs w (supB x i V) := by
  obtain ⟨h1, h2, h3⟩ := sokB_iff.1 h
  have m := mayS_iff.1 h1
  have m1 := m.vol
  have m2 := m.ep
  have m3 := m.gen
  refine ⟨?_, ?_, ?_, ?_, ?_, hr⟩
  · show N64 2; unfold N64; omega
  · show N64 x.vol; unfold N64; omega
  · show N64 i; unfold N64; omega
  · show N64 x.ep; unfold N64; omega
  · show N64 x.gen; unfold N64; omega
set_option maxHeartbeats 6400000 in
theorem rsecS_any (x : Sp) (i : Int) (w : World) : Calls Try.prog 10 #[.agg (supC x), .int .i64 i] w (SecPost x i w) := by
  obtain ⟨w1, H, hR⟩ := boxR w (supC x) 25
  have HL := Lib.hid (load_su hR.cx)
  have HX := Lib.hid (su_x hR.cx)
  have HR := Lib.hid hR
  clear hR
  go_enter Try.func10, Try.ntmps10
  go_wp2_with (first | ((with_reducible refine wpList_isOp (.box 25 (.tmp 0)) rfl ?_); refine wpList_boxing _ w1 rfl 25 (.tmp 0) rfl (supC x) H rfl (by exact HR.out.sz) (by exact HR.out.al) ?_) | ((with_reducible refine wpList_isOp (.load 25 (.tmp 2)) rfl ?_); refine wpList_loading _ rfl 25 (.tmp 2) rfl (.agg (supC x)) ⟨H, 0, none⟩ rfl (by exact HL.out) ?_))
  refine (rmayS_any x _).mono ?_
  rintro e w2 ⟨rfl, hc2⟩
  have HC2 := Lib.hid (HR.out.ch.trans hc2)
  have HX2 := Lib.hid (HX.out.gr hc2)
  clear hc2
  cases hm : mayS x
  · have HN := Lib.hid (show sokB x i = false by unfold sokB; rw [hm]; rfl)
    go_wp2
    go_ret2
    exact secPost_no HN.out HC2.out
  by_cases h0 : i < 0
  · have HN := Lib.hid (show sokB x i = false by
      cases q : sokB x i with
      | false => rfl
      | true => obtain ⟨_, q1, q2⟩ := sokB_iff.1 q; omega)
    go_wp2
    go_ret2
    exact secPost_no HN.out HC2.out
  by_cases h1 : 3 < i
  · have HN := Lib.hid (show sokB x i = false by
      cases q : sokB x i with
      | false => rfl
      | true => obtain ⟨_, q1, q2⟩ := sokB_iff.1 q; omega)
    go_wp2
    go_ret2
    exact secPost_no HN.out HC2.out
  have HN := Lib.hid (show sokB x i = true from sokB_iff.2 ⟨hm, by omega, by omega⟩)
  have HM := Lib.hid hm
  have HBL := Lib.hid (body_len hm)
  obtain ⟨w3, hw3⟩ : ∃ w3, w3 = w2.alloc (.cells #[.int .i64 x.area, .int .i64 x.snap, .int .i64 x.long, .int .i64 x.start, .int .i64 x.chain, .int .i64 x.g.wal, .int .i64 x.g.st, .int .i64 x.g.k, .int .i64 x.g.m] /-t-/3) := ⟨_, rfl⟩
  obtain ⟨G, hG⟩ : ∃ G, G = w2.heap.size := ⟨_, rfl⟩
  have hc23 : Ch (fun _ => False) w2 w3 := by rw [hw3]; exact (Ch.refl _ w2).alloc _ _
  have HV := Lib.hid (show ∀ c, c < 9 → w3.cell? ⟨G, c, none⟩ = some (.int .i64 (numS x c)) from fun c hc => by
    rw [hw3, hG, blk_cell (heap_alloc_new w2 _)]
    exact num_cells x hc)
  have HC3 := Lib.hid (HC2.out.trans hc23)
  have HX3 := Lib.hid (HX2.out.gr hc23)
  have HO0 := Lib.hid (show OutSt w3 (Cod.litZ (bodyL x)) (.slice none 0 0) (prefL x 0).length w3 from ⟨World.ownsRow_nil _ _ _ _, Ch.refl _ w3⟩)
  obtain ⟨x0, x1, x2, x3, x4, x5, x6, x7, x8, x9, x10, x11⟩ := HX2.out
  go_wp2_with fail
  rw [← hw3, ← hG]
  clear x0 x1 x2 x3 x4 x5 x6 x7 x8 x9 x10 x11 hw3 hG hc23 h0 h1 hm
  go_loopw [8, 9] (fun v i wr => ∃ k : Nat, k ≤ 9 ∧ i = .int .i64 k ∧ Hid (OutSt w3 (Cod.litZ (bodyL x)) v (prefL x k).length wr)) (fun _ i _ => 9 - (intOf i).toNat)
  case atStart => exact ⟨0, Nat.zero_le _, rfl, HO0⟩
  case round =>
    obtain ⟨k, hk, rfl, HK⟩ := hrel
    clear HO0
    by_cases hlt : k < 9
    · have i1 : (0 : Int) ≤ (k : Int) := Int.natCast_nonneg _
      have i2 : (k : Int) < 9 := by omega
      have hb := num_in HM.out k
      have hpl := prefL_len HM.out k
      obtain ⟨n, hn⟩ : ∃ n, n = (numS x k).toNat := ⟨_, rfl⟩
      have hcell : wr.cell? ⟨G, k, none⟩ = some (.int .i64 (n : Int)) := by
        rw [show (n : Int) = numS x k by omega]
        exact HK.out.ch.cell (HV.out k hlt) (fun f => f)
      have HNUM := Lib.hid (rnum_any n (by omega) wr)
      have hd5 := digs_len5 (n := n) (by omega)
      have HNX := Lib.hid (show ∀ c, c < (Cod.digs n).length → Cod.litZ (bodyL x) ((prefL x k).length + c) = Cod.litZ (Cod.digs n) c from fun c hc => by rw [hn] at hc ⊢; exact body_next x hlt c hc)
      have HLN := Lib.hid (show (prefL x (k + 1)).length = (prefL x k).length + (Cod.digs n).length by rw [prefL_snoc, List.length_append, hn])
      have HB := Lib.hid (And.intro hpl hd5)
      have HLT := Lib.hid hlt
      clear hlt hb hpl hn hd5
      go_wp2_with fail
      refine HNUM.out.mono ?_
      rintro e w4 ⟨u, rfl, q1, q2⟩
      obtain ⟨v5, w5, hr5, ho5⟩ := (HK.out.gr q2).app (ownsRow_rowV q1 (by have := HB.out.2; omega) (fun c _ => Cod.litZ_b (Cod.digs_b n) c)) HNX.out (by have := HB.out; have := HLT.out; omega)
      rw [← HLN.out] at ho5
      have HR5 := Lib.hid hr5
      have HO5 := Lib.hid ho5
      clear q1 q2 hr5 ho5
      go_wp2_with (at_builtin; refine wpList_app_of _ rfl (.tmp 51) (.tmp 56) rfl rfl _ _ v5 w5 rfl rfl HR5.out ?_)
      go_roundw
      case rel => exact ⟨k + 1, HLT.out, by go_num, HO5⟩
      case measure => have := HLT.out; simp [intOf]; omega
    · obtain rfl : k = 9 := by omega
      have hown : wr.ownsRow w3.heap.size /-t-/5 1 _ (bodyL x).length (bytesL (bodyL x).length (Cod.litZ (bodyL x))) := HK.out.own
      obtain ⟨A, C, rfl⟩ := own_slice hown
      have HBK := Lib.hid (supB_is' (i := i) HN.out (ownsRow_rowV hown (by have := HBL.out; omega) (fun c _ => Cod.litZ_b (prefL_b x 9) c)))
      have HCH := Lib.hid (HC3.out.trans HK.out.ch)
      obtain ⟨x0, x1, x2, x3, x4, x5, x6, x7, x8, x9, x10, x11⟩ := HX3.out.gr HK.out.ch
      clear hown hlt hk
      rw [show ((9 : Nat) : Int) = 9 from rfl]
      go_wp2_with fail
      refine (rsealB_any (supB x i (.slice A (bodyL x).length C)) A C _ rfl HBK.out).mono ?_
      rintro e w6 hp
      have HP := Lib.hid (secPost_yes (V := .slice A (bodyL x).length C) HN.out HCH.out hp)
      obtain ⟨A6, C6, rfl, _⟩ := hp
      clear x0 x1 x2 x3 x4 x5 x6 x7 x8 x9 x10 x11
      go_wp2
      go_ret2
      exact HP.out
#print axioms rsecS_any
end Go.Proofs.Ytjdknebifcdicaa
