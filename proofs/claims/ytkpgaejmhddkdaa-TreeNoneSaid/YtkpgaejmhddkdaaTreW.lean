/-
  The tree itself: Get, Put, Del.
-/
import Derived.Test.YtkpgaejmhddkdaaTreV
namespace Go.Proofs.Ytkpgaejmhddkdaa
open Go.RowKit
set_option linter.unusedVariables false
set_option maxRecDepth 100000
set_option linter.unusedSimpArgs false

def gotT (o : Option Int) : Value := .tuple #[.int .i64 (o.getD 0), .bool o.isSome]
set_option maxHeartbeats 3200000 in
theorem tget_any {w : World} {t h : Nat} {L : List Kv} (ht : TreeIs w t h L) (k : ByteArray) : Calls Try.prog 14 #[.pointer (some ⟨t, 0, none⟩), .string k] w (Ans (gotT (getL L k)) w) := by
  obtain ⟨F, root, m, hb, hT, hm, hr, _⟩ := ht
  have HTOP := Lib.hid (ttop_any (h := h) hb)
  have HT := Lib.hid (And.intro hT (And.intro hm hr))
  clear hb hT hm hr
  go_enter Try.func14, Try.ntmps14
  go_wp2_with fail
  refine HTOP.out.mono ?_
  rintro e w1 ⟨rfl, rfl⟩
  obtain ⟨v, hv⟩ : ∃ v, v = ptrV root := ⟨_, rfl⟩
  rw [← hv]
  have HV := Lib.hid hv
  clear hv HTOP
  go_wp2_with fail
  go_loopg [6] h (fun gk p wr => ∃ (o : Option Nat) (m : Nat) (L2 : List Kv), Hid (p = ptrV o) ∧ Hid (TrIs F gk wr o m L2 ∧ (0 < gk → 1 ≤ m ∧ m ≤ 7) ∧ Rise L2) ∧ Hid (getL L2 k = getL L k) ∧ Hid (Ch (fun _ => False) w1 wr))
  case atStart => exact ⟨root, m, L, HV, HT, Lib.hid rfl, Lib.hid (Ch.refl _ _)⟩
  case round =>
    clear HV HT
    obtain ⟨o, m, L2, HP, HT, HG, HC⟩ := hrel
    have hp := HP.out
    cases gk with
    | zero =>
      have ho : o = none := HT.out.1.1
      rw [ho] at hp
      have hp2 : u6 = .pointer none := hp
      subst hp2
      have hn : getL L k = none := by rw [← HG.out, HT.out.1.2.2]; rfl
      have HE := Lib.hid hn
      clear ho hp hn
      go_wp2_with fail
      go_ret2
      exact ⟨by rw [HE.out]; rfl, HC.out⟩
    | succ g =>
      obtain ⟨b, ps, cs, eb, hnd, em, hk⟩ := HT.out.1
      rw [eb] at hp
      have hp2 : u6 = .pointer (some ⟨b, 0, none⟩) := hp
      subst hp2
      have hRp : Rise ps := by
        have hr := HT.out.2.2
        rcases hk with ⟨_, _, rfl⟩ | ⟨_, Ls, _, rfl, _⟩
        · exact hr
        · exact rise_pairs hr
      have hm7 : ps.length ≤ 7 := by have := HT.out.2.1 (Nat.succ_pos _); omega
      have HFI := Lib.hid (nfind_any k hnd hRp (by omega))
      have HND := Lib.hid hnd
      have HKD := Lib.hid hk
      have HRP := Lib.hid hRp
      have HM7 := Lib.hid hm7
      clear hnd hk em eb hp hRp hm7
      go_wp2_with fail
      refine HFI.out.mono ?_
      rintro e w2 ⟨a, bb, e1, rfl, e2, e3, hc2⟩
      subst e1
      have HC2 := Lib.hid hc2
      have hnd2 := HND.out.ch hc2 fun _ _ f => f
      obtain ⟨i, hi⟩ : ∃ i, i = a.length := ⟨_, rfl⟩
      rw [← hi]
      have HI := Lib.hid hi
      have i0 : (0 : Int) ≤ (i : Int) := Int.natCast_nonneg _
      have HE := Lib.hid (And.intro e2 e3)
      obtain ⟨hh, hhh⟩ : ∃ hh, hh = hereB bb k := ⟨_, rfl⟩
      rw [← hhh]
      clear hc2 e2 e3 hi HFI
      cases hh
      · have habv := gap_above (rise_app.1 HRP.out).2.1 HE.out.2 hhh.symm
        have hchild : (cs = [] ∨ i < cs.length) ∧ ∃ m' L', TrIs F g wr cs[i]? m' L' ∧ (0 < g → 1 ≤ m' ∧ m' ≤ 7) ∧ Rise L' ∧ getL L' k = getL L k := by
          rcases Nat.eq_zero_or_pos g with g0 | g0
          · subst g0
            obtain ⟨e1, e2⟩ : cs = [] ∧ L2 = a ++ bb := by
              rcases HKD.out with ⟨_, e1, e2⟩ | ⟨e, _⟩
              · exact ⟨e1, e2⟩
              · omega
            refine ⟨Or.inl e1, 0, [], by rw [e1]; exact ⟨rfl, rfl, rfl⟩, fun f => absurd f (Nat.lt_irrefl 0), rise_nil, ?_⟩
            rw [← HG.out, e2, getL_off fun y hy => (List.mem_append.1 hy).imp (HE.out.1 y) (habv y)]
            rfl
          · obtain ⟨g', rfl⟩ : ∃ g', g = g' + 1 := ⟨g - 1, by omega⟩
            obtain ⟨cA, c, cB, LA, l, LB, mc, e1, hla, hlb, e2, c3, c7, hct, hA, hB'⟩ := kids_gap HKD.out g0
            have hr := HT.out.2.2
            rw [e2] at hr
            obtain ⟨gX, gY, gl⟩ := gap_parts hr HE.out.1 habv
            have hcx : cs[i]? = some c := by rw [e1, HI.out, hla, List.getElem?_append_right (Nat.le_refl _)]; simp
            refine ⟨Or.inr (by rw [e1, HI.out, hla]; simp), mc, l, by rw [hcx]; exact hct, fun _ => ⟨by omega, c7⟩, gl, ?_⟩
            rw [← HG.out, e2, getL_mid gX gY]
        have HCH := Lib.hid (nchild_any i hnd2 hchild.1)
        have HNX := Lib.hid hchild.2
        clear habv hchild hnd2 hhh
        go_wp2_with fail
        refine HCH.out.mono ?_
        rintro e w3 ⟨rfl, rfl⟩
        obtain ⟨v, hv⟩ : ∃ v, v = ptrV cs[i]? := ⟨_, rfl⟩
        rw [← hv]
        have HV := Lib.hid hv
        clear hv HCH
        go_wp2_with fail
        go_roundg g
        case measure => omega
        case rel =>
          obtain ⟨m', L', n1, n2, n3, n4⟩ := HNX.out
          exact ⟨_, m', L', HV, Lib.hid ⟨n1.gr HC2.out, n2, n3⟩, Lib.hid n4, Lib.hid (HC.out.trans HC2.out)⟩
      · obtain ⟨x, b2, rfl, hx⟩ := here_some hhh.symm
        obtain ⟨X, Y, eL, _⟩ := kids_here HKD.out
        have hr := HT.out.2.2
        rw [eL] at hr
        have hgx : getL L k = some x.2 := by
          rw [← HG.out, eL, ← hx]
          exact getL_here (here_parts hr).1 rfl
        have HGX := Lib.hid hgx
        obtain ⟨_, Aq, Cq, Ad, Cd, hbq, hrp, _⟩ := hnd2
        obtain ⟨g2, o2, rfl, hpc⟩ := hrp.v.at' (by simp only [List.length_append, List.length_cons]; omega)
        obtain ⟨n, hn⟩ : ∃ n, n = (a ++ x :: b2).length := ⟨_, rfl⟩
        rw [← hn] at hbq
        have c0 : w2.cell? ⟨b, 0, none⟩ = some (.slice (some ⟨g2, o2, none⟩) n Cq) := by rw [blk_cell hbq]; rfl
        have hxi : (a ++ x :: b2)[i]? = some x := by rw [HI.out, List.getElem?_append_right (Nat.le_refl _)]; simp
        have p1 : w2.cell? ⟨g2, o2 + i * 2 + 1, none⟩ = some (.int .i64 x.2) := hpc i x hxi 1 _ rfl
        have i1 : (i : Int) < (n : Int) := by rw [hn, HI.out]; simp only [List.length_append, List.length_cons]; omega
        clear hhh hx eL hr hgx hbq hrp hpc hn hxi
        go_wp2_with fail
        go_ret2
        exact ⟨by rw [HGX.out]; rfl, HC.out.trans HC2.out⟩
#print axioms tget_any
end Go.Proofs.Ytkpgaejmhddkdaa
