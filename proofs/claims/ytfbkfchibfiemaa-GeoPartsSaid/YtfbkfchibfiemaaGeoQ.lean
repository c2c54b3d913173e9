/-
  The document's Members and Where (quartermasterref08), walked.
-/
import Derived.Test.YtfbkfchibfiemaaGeoO
import Derived.BigQuiet
namespace Go.Proofs.Ytfbkfchibfiemaa
open Go.RowKit
set_option linter.unusedVariables false
set_option maxRecDepth 100000

/-! ### the members that were met -/
def UpG (n : Gn) (i : Int) (a c : Nat) : Prop := (inG n.ge i = true → Gn.Upto n i.toNat a c) ∧ (inG n.ge i = false → c = 0)
theorem UpG.start (n : Gn) (i : Int) : UpG n i 0 0 := ⟨fun _ => Gn.Upto.start n _, fun _ => rfl⟩
theorem inG_lt {n : Gn} (h : n.Ok) {i : Int} (t : inG n.ge i = true) : i.toNat < n.grp ∧ ((i.toNat : Nat) : Int) = i := by
  have h1 := of_decide_eq_true t
  rw [grpG_ok h] at h1
  omega
theorem UpG.hit {n : Gn} (h : n.Ok) {i : Int} {a c : Nat} (u : UpG n i a c) (ha : a < n.tot) (e : ownN n a = i) : c ≤ 24 ∧ (a : Int) = secG n.ge i c ∧ UpG n i (a + 1) (c + 1) := by
  unfold ownN at e
  have hg := (Gn.of_lt h ha).1
  have t : inG n.ge i = true := by rw [← e]; exact inG_ok h hg
  have e2 : n.ofA a = i.toNat := by rw [← e, Int.toNat_natCast]
  obtain ⟨_, h2, h3⟩ := (u.1 t).at h ha e2
  refine ⟨?_, ?_, fun _ => (u.1 t).hit h ha e2, fun f => by rw [t] at f; cases f⟩
  · have := Gn.cnt_le h i.toNat
    omega
  · unfold secG
    rw [toGn_ge, h3]
theorem UpG.miss {n : Gn} (h : n.Ok) {i : Int} {a c : Nat} (u : UpG n i a c) (e : ¬ ownN n a = i) : UpG n i (a + 1) c := by
  refine ⟨fun t => ?_, u.2⟩
  obtain ⟨h1, h2⟩ := inG_lt h t
  exact (u.1 t).miss h h1 (fun q => e (by unfold ownN; rw [q, h2]))
theorem UpG.full {n : Gn} (h : n.Ok) {i : Int} {c : Nat} (u : UpG n i n.tot c) : c = cntG n.ge i := by
  cases t : inG n.ge i
  · rw [u.2 t, (inG_no t).1]
  · obtain ⟨h1, h2⟩ := inG_lt h t
    have := (u.1 t).full h h1
    rw [this, ← h2, cntG_ok h h1, Int.toNat_natCast]
theorem own_form {w : World} {base n : Nat} {v : Value} {xs : List Value} (h : w.ownsRow base /-t-/3 1 v n xs) (hn : 0 < n) : ∃ g C, v = .slice (some ⟨g, 0, none⟩) n C := by
  rcases h.2 with ⟨rfl, h0⟩ | ⟨g, cap, cur, rfl, _⟩
  · omega
  · exact ⟨_, _, rfl⟩
set_option maxHeartbeats 3200000 in
set_option maxRecDepth 100000 in
theorem rmembers_any (g : Ge) (i : Int) (w : World) : Calls Try.prog 12 #[.agg (geC g), .int .i64 i] w fun e w' => ∃ v, e = .returned v ∧ IntV w' v (cntG g i) (secG g i) ∧ Ch (fun _ => False) w w' := by
  obtain ⟨w1, H, hR⟩ := geR w g
  obtain ⟨x0, x1, x2, x3⟩ := hR.x
  have HR := Lib.hid hR
  clear hR
  cases t1 : mayG g
  · have HE := Lib.hid (show cntG g i = 0 from (inG_no (show inG g i = false by
      cases t : inG g i
      · rfl
      · rw [inG_may t] at t1; cases t1)).1)
    go_enter Try.func12, Try.ntmps12
    go_wp2_with ((with_reducible refine wpList_isOp (.box 23 (.tmp 0)) rfl ?_); refine wpList_boxing _ w1 rfl 23 (.tmp 0) rfl (geC g) H rfl (by exact HR.out.sz) (by exact HR.out.al) ?_)
    refine (owners_none g t1 _).mono ?_
    rintro e w2 ⟨rfl, hc2⟩
    have HC2 := Lib.hid (HR.out.ch.trans hc2)
    clear hc2
    go_wp2
    go_loopw [6, 7] (fun v x wr => v = .slice none 0 0 ∧ x = .int .i64 0 ∧ Hid (Ch (fun _ => False) w wr)) (fun _ _ _ => 0)
    case atStart => exact ⟨rfl, rfl, HC2⟩
    case round =>
      obtain ⟨rfl, rfl, HC⟩ := hrel
      go_wp2
      go_ret
      exact ⟨_, rfl, by rw [HE.out]; exact none_intV _ _ 0, HC.out⟩
  · obtain ⟨n, hn, rfl⟩ := may_nat t1
    have HN := Lib.hid hn
    have HP := Lib.hid (owners_any n hn)
    have hT2 := hn.tot2
    have HT0 := Lib.hid (show 0 < n.tot by unfold Gn.tot Gn.fs; omega)
    clear hn t1
    go_enter Try.func12, Try.ntmps12
    go_wp2_with ((with_reducible refine wpList_isOp (.box 23 (.tmp 0)) rfl ?_); refine wpList_boxing _ w1 rfl 23 (.tmp 0) rfl (geC n.ge) H rfl (by exact HR.out.sz) (by exact HR.out.al) ?_)
    refine (HP.out _).mono ?_
    rintro e w2 ⟨v, rfl, ho2, hc2⟩
    obtain ⟨G, C, rfl⟩ := own_form ho2 HT0.out
    have HV := Lib.hid (own_intV ho2 (by omega))
    have HC2 := Lib.hid (HR.out.ch.trans hc2)
    clear hc2 ho2
    obtain ⟨T, hT⟩ : ∃ T, T = n.tot := ⟨_, rfl⟩
    have HT := Lib.hid hT
    rw [← hT] at HV HT0 hT2 ⊢
    clear hT
    go_wp2
    go_loopw [6, 7] (fun v x wr => ∃ a : Nat, a ≤ T ∧ x = .int .i64 (a : Int) ∧ ∃ c, Hid (Nums w2 wr v c (secG n.ge i)) ∧ Hid (UpG n i a c)) (fun _ x _ => T - (intOf x).toNat)
    case atStart => exact ⟨0, Nat.zero_le _, rfl, 0, Lib.hid (Nums.start w2 _), Lib.hid (UpG.start n i)⟩
    case round =>
      obtain ⟨a, ha, rfl, c, HS, HU⟩ := hrel
      by_cases hlt : a < T
      · obtain ⟨b, o, eb, hcell⟩ := (HV.out.gr HS.out.ch).at HT0.out
        injection eb with eb
        injection eb with eb1 eb2
        subst eb1
        subst eb2
        have c1 := hcell a hlt
        rw [Nat.zero_add] at c1
        have t2 : decide (a < T) = true := decide_eq_true hlt
        have i1 : (0 : Int) ≤ (a : Int) := Int.natCast_nonneg _
        have i2 : (a : Int) < (T : Int) := by omega
        have HLT := Lib.hid (show a < n.tot by rw [← HT.out]; exact hlt)
        obtain ⟨x, hx⟩ : ∃ x, x = ownN n a := ⟨_, rfl⟩
        rw [← hx] at c1
        by_cases q : x = i
        · obtain ⟨hc24, hsec, hup⟩ := HU.out.hit HN.out HLT.out (by rw [← hx]; exact q)
          have t3 : (x == i) = true := by simp [q]
          obtain ⟨g9, cap, w9, hrun, h9⟩ := HS.out.app (by omega)
          have HRUN := Lib.hid hrun
          have HEQ := Lib.hid hsec
          have H9 := Lib.hid h9
          have HUP := Lib.hid hup
          clear hrun h9 hup hsec hc24 hx q hcell HS HU
          go_wp2_with (at_builtin; refine wpList_appI _ rfl (.tmp 22) (.tmp 24) rfl rfl _ _ (.slice (some ⟨g9, 0, none⟩) (c + 1) cap) w9 rfl rfl (HRUN.out _ HEQ.out) ?_)
          go_roundw
          case rel => exact ⟨a + 1, by omega, by go_num, c + 1, H9, HUP⟩
          case measure => simp [intOf]; omega
        · have HUP := Lib.hid (HU.out.miss HN.out (by rw [← hx]; exact q))
          have t3 : (x == i) = false := by simpa using q
          clear hx q hcell HU
          go_wp2
          go_roundw
          case rel => exact ⟨a + 1, by omega, by go_num, c, HS, HUP⟩
          case measure => simp [intOf]; omega
      · obtain rfl : a = T := by omega
        have hc := UpG.full HN.out (by rw [← HT.out]; exact HU.out)
        have HI := Lib.hid (show IntV wr _ (cntG n.ge i) (secG n.ge i) from by
          have h := own_intV HS.out.own (by rw [hc]; have := cntG_le n.ge i; omega)
          rw [hc] at h
          exact h)
        have HCC := Lib.hid (HC2.out.trans HS.out.ch)
        clear HS HU hc
        go_wp2
        go_ret
        exact ⟨_, rfl, HI.out, HCC.out⟩
#print axioms rmembers_any

/-! ### Where -/
set_option maxHeartbeats 1600000 in
set_option maxRecDepth 100000 in
theorem rwhere_off (g : Ge) (a : Int) (h : atG g a = false) (w : World) : Calls Try.prog 9 #[.agg (geC g), .int .i64 a] w (Ans (whV g a) w) := by
  obtain ⟨w1, H, hR⟩ := geR w g
  obtain ⟨x0, x1, x2, x3⟩ := hR.x
  have HR := Lib.hid hR
  clear hR
  cases t1 : mayG g
  · have HE := Lib.hid (whE_no (a := a) t1)
    go_enter Try.func9, Try.ntmps9
    go_wp2_with ((with_reducible refine wpList_isOp (.box 23 (.tmp 0)) rfl ?_); refine wpList_boxing _ w1 rfl 23 (.tmp 0) rfl (geC g) H rfl (by exact HR.out.sz) (by exact HR.out.al) ?_)
    refine (owners_none g t1 _).mono ?_
    rintro e w2 ⟨rfl, hc2⟩
    go_wp2
    go_ret3
    exact ⟨by rw [HE.out]; rfl, HR.out.ch.trans hc2⟩
  · have HE := Lib.hid (whE_off t1 h)
    obtain ⟨n, hn, rfl⟩ := may_nat t1
    have HP := Lib.hid (owners_any n hn)
    have hT2 := hn.tot2
    have hT0 : 0 < n.tot := by unfold Gn.tot Gn.fs; omega
    have h1 := of_decide_eq_false h
    rw [totG_ok hn] at h1
    obtain ⟨T, hT⟩ : ∃ T, T = n.tot := ⟨_, rfl⟩
    have HT := Lib.hid hT
    rw [← hT] at h1 hT2 hT0
    have hz1 : ¬ T = 0 := by omega
    clear hn hT h t1
    by_cases q : a < 0
    · have t2 : decide (a < 0) = true := decide_eq_true q
      clear h1 q
      go_enter Try.func9, Try.ntmps9
      go_wp2_with ((with_reducible refine wpList_isOp (.box 23 (.tmp 0)) rfl ?_); refine wpList_boxing _ w1 rfl 23 (.tmp 0) rfl (geC n.ge) H rfl (by exact HR.out.sz) (by exact HR.out.al) ?_)
      refine (HP.out _).mono ?_
      rintro e w2 ⟨v, rfl, ho2, hc2⟩
      rw [← HT.out] at ho2
      obtain ⟨G, C, rfl⟩ := own_form ho2 hT0
      clear ho2
      go_wp2
      go_ret3
      exact ⟨by rw [HE.out]; rfl, HR.out.ch.trans hc2⟩
    · have t2 : decide (a < 0) = false := decide_eq_false q
      have t3 : decide ((T : Int) ≤ a) = true := decide_eq_true (by omega)
      clear h1 q
      go_enter Try.func9, Try.ntmps9
      go_wp2_with ((with_reducible refine wpList_isOp (.box 23 (.tmp 0)) rfl ?_); refine wpList_boxing _ w1 rfl 23 (.tmp 0) rfl (geC n.ge) H rfl (by exact HR.out.sz) (by exact HR.out.al) ?_)
      refine (HP.out _).mono ?_
      rintro e w2 ⟨v, rfl, ho2, hc2⟩
      rw [← HT.out] at ho2
      obtain ⟨G, C, rfl⟩ := own_form ho2 hT0
      clear ho2
      go_wp2
      go_ret3
      exact ⟨by rw [HE.out]; rfl, HR.out.ch.trans hc2⟩
#print axioms rwhere_off
set_option maxHeartbeats 3200000 in
set_option maxRecDepth 100000 in
theorem rwhere_at (n : Gn) (hn : n.Ok) (b : Nat) (hb : b < n.tot) (w : World) : Calls Try.prog 9 #[.agg (geC n.ge), .int .i64 (b : Int)] w (Ans (whV n.ge (b : Int)) w) := by
  obtain ⟨w1, H, hR⟩ := geR w n.ge
  obtain ⟨x0, x1, x2, x3⟩ := hR.x
  have HR := Lib.hid hR
  have HE := Lib.hid (whE_at hn hb)
  have HN := Lib.hid hn
  have HP := Lib.hid (owners_any n hn)
  have hT2 := hn.tot2
  have HB := Lib.hid hb
  obtain ⟨T, hT⟩ : ∃ T, T = n.tot := ⟨_, rfl⟩
  have HT := Lib.hid hT
  rw [← hT] at hb hT2
  have hT0 : 0 < T := by omega
  have hz1 : ¬ T = 0 := by omega
  have t2 : decide (T ≤ b) = false := decide_eq_false (by omega)
  have j1 : (0 : Int) ≤ (b : Int) := Int.natCast_nonneg _
  have j2 : (b : Int) < (T : Int) := by omega
  clear hn hT hR
  go_enter Try.func9, Try.ntmps9
  go_wp2_with ((with_reducible refine wpList_isOp (.box 23 (.tmp 0)) rfl ?_); refine wpList_boxing _ w1 rfl 23 (.tmp 0) rfl (geC n.ge) H rfl (by exact HR.out.sz) (by exact HR.out.al) ?_)
  refine (HP.out _).mono ?_
  rintro e w2 ⟨v, rfl, ho2, hc2⟩
  rw [← HT.out] at ho2
  obtain ⟨A, C, rfl, _, h3⟩ := own_intV ho2 (by omega)
  obtain ⟨G, o, rfl, hcell⟩ := h3 hT0
  clear h3
  have HCELL := Lib.hid hcell
  have HC2 := Lib.hid (HR.out.ch.trans hc2)
  clear hc2 ho2 hcell
  obtain ⟨y, hy⟩ : ∃ y, y = ownN n b := ⟨_, rfl⟩
  have HY := Lib.hid hy
  have cb : w2.cell? ⟨G, o + b, none⟩ = some (.int .i64 y) := by rw [hy]; exact HCELL.out b hb
  clear hy
  go_wp2
  go_loopw [8, 9] (fun v x wr => ∃ a : Nat, a ≤ b ∧ x = .int .i64 (a : Int) ∧ (∃ d, wr = w2.drewN d) ∧ ∃ c : Nat, v = .int .i64 (c : Int) ∧ Hid (UpG n y a c)) (fun _ x _ => b - (intOf x).toNat)
  case atStart => exact ⟨0, Nat.zero_le _, rfl, ⟨0, rfl⟩, 0, rfl, Lib.hid (UpG.start n y)⟩
  case round =>
    obtain ⟨a, ha, rfl, ⟨d, rfl⟩, c, rfl, HU⟩ := hrel
    by_cases hlt : a < b
    · have c1 := HCELL.out a (by omega)
      have t3 : decide (a < b) = true := decide_eq_true hlt
      have i1 : (0 : Int) ≤ (a : Int) := Int.natCast_nonneg _
      have i2 : (a : Int) < (T : Int) := by omega
      have HLT := Lib.hid (show a < n.tot by rw [← HT.out]; omega)
      obtain ⟨x, hx⟩ : ∃ x, x = ownN n a := ⟨_, rfl⟩
      rw [← hx] at c1
      by_cases q : x = y
      · obtain ⟨hc24, hsec, hup⟩ := HU.out.hit HN.out HLT.out (by rw [← hx]; exact q)
        have t4 : (x == y) = true := by simp [q]
        have HUP := Lib.hid hup
        clear hup hx q HU hsec
        go_wp2
        go_quiet (fail)
        go_wp2
        go_roundw
        case rel => exact ⟨a + 1, by omega, by go_num, ⟨_, rfl⟩, c + 1, by go_num, HUP⟩
        case measure => simp [intOf]; omega
      · have HUP := Lib.hid (HU.out.miss HN.out (by rw [← hx]; exact q))
        have t4 : (x == y) = false := by simpa using q
        clear hx q HU
        go_wp2
        go_quiet (fail)
        go_wp2
        go_roundw
        case rel => exact ⟨a + 1, by omega, by go_num, ⟨_, rfl⟩, c, rfl, HUP⟩
        case measure => simp [intOf]; omega
    · obtain rfl : a = b := by omega
      have HF := Lib.hid (show c = n.plA a ∧ y = (n.ofA a : Int) from by
        have hg := (Gn.of_lt HN.out HB.out).1
        have ey : y = (n.ofA a : Int) := HY.out
        refine ⟨?_, ey⟩
        have ht : inG n.ge y = true := by rw [ey]; exact inG_ok HN.out hg
        exact (((HU.out.1 ht).at HN.out HB.out (by rw [ey, Int.toNat_natCast])).1).symm)
      clear HU
      go_wp2
      go_ret3
      exact ⟨by rw [HE.out, ← HF.out.1, ← HF.out.2]; rfl, HC2.out.drewN d⟩
#print axioms rwhere_at
theorem rwhere_any (g : Ge) (a : Int) (w : World) : Calls Try.prog 9 #[.agg (geC g), .int .i64 a] w (Ans (whV g a) w) := by
  cases t : atG g a
  · exact rwhere_off g a t w
  · have hm : mayG g = true := by
      cases m : mayG g
      · have := of_decide_eq_true t
        rw [totG_no m] at this
        omega
      · rfl
    obtain ⟨n, hn, rfl⟩ := may_nat hm
    obtain ⟨b, rfl, hb⟩ := atG_nat hn t
    exact rwhere_at n hn b hb w
#print axioms rwhere_any
end Go.Proofs.Ytfbkfchibfiemaa
