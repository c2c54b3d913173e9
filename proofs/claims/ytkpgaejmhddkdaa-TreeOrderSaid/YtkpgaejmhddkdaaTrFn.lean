/-
  TreeOrder, walked.
-/
import Derived.Test.YtkpgaejmhddkdaaTrFm
namespace Go.Proofs.Ytkpgaejmhddkdaa
open Go.RowKit
set_option linter.unusedVariables false
set_option maxRecDepth 100000
set_option linter.unusedSimpArgs false

theorem TreeIs.cell {w : World} {t h : Nat} {L : List Kv} (q : TreeIs w t h L) : ∃ c f, w.heap[t]? = some (.cells c 28 f) := by
  obtain ⟨F, root, m, h1, _⟩ := q
  exact ⟨_, _, h1⟩
theorem put_le1 {L : List Kv} (h : Rise L) (k : ByteArray) (v : Int) : (putL13 L k v).length ≤ L.length + 1 := by
  rw [putL_len h]
  split <;> omega
theorem del_le1 {L : List Kv} (h : Rise L) (k : ByteArray) : (delL L k).length ≤ L.length := by
  have := delL_len h k
  omega
def OrA (t j : Nat) (gs : List ByteArray) (w1 wr : World) : Prop := ∃ h L, TreeIs wr t h L ∧ L.length ≤ j ∧ (∀ x ∈ L, x.1 ∈ gs) ∧ Ch (fun i => i = t) w1 wr
def OrB (t : Nat) (gs : List ByteArray) (w1 wr : World) : Prop := ∃ h L, TreeIs wr t h L ∧ (∀ x ∈ L, x.1 ∈ gs) ∧ Ch (fun i => i = t) w1 wr
def OrC (a b j : Nat) (ks : List ByteArray) (w1 wr : World) : Prop := ∃ ha hb, TreeIs wr a ha (putsL (ks.take j)) ∧ TreeIs wr b hb (putsL (ks.reverse.take j)) ∧ (putsL (ks.take j)).length ≤ j ∧ (putsL (ks.reverse.take j)).length ≤ j ∧ Ch (fun i => i = a ∨ i = b) w1 wr
set_option maxHeartbeats 6400000 in
theorem treeOrder_of (A A2 : Option Addr) (C C2 : Nat) (ks gs : List ByteArray) (w : World) (h1 : FlW kdSt w A C ks) (h2 : FlW kdSt w A2 C2 gs) : Calls Try.prog 6 #[.slice A ks.length C, .slice A2 gs.length C2] w (Told w) := by
  have HWK := Lib.hid h1
  have HWG := Lib.hid h2
  obtain ⟨n, hn⟩ : ∃ n, n = ks.length := ⟨_, rfl⟩
  obtain ⟨m, hm⟩ : ∃ m, m = gs.length := ⟨_, rfl⟩
  have e1 := h1.le
  have e2 := h2.le
  have HUP := Lib.hid (awake_any w)
  rw [← hn] at e1 ⊢
  rw [← hm] at e2 ⊢
  have n0 : (0 : Int) ≤ (n : Int) := Int.natCast_nonneg _
  have n1 : (n : Int) ≤ 9223372036854775807 := by omega
  have m0 : (0 : Int) ≤ (m : Int) := Int.natCast_nonneg _
  have m1 : (m : Int) ≤ 9223372036854775807 := by omega
  have HN := Lib.hid hn
  have HM := Lib.hid hm
  clear h1 h2 hn hm e1 e2
  go_enter Try.func6, Try.ntmps6
  go_wp2_with fail
  refine HUP.out.mono ?_
  rintro e w1 ⟨rfl, hc1⟩
  have HC1 := Lib.hid hc1
  clear hc1 HUP
  by_cases p1 : n ≤ 100
  case neg =>
    have q1 : (100 : Int) < (n : Int) := by omega
    clear p1
    go_wp2_with fail
    go_ret
    exact ⟨rfl, HC1.out⟩
  by_cases p2 : m ≤ 100
  case neg =>
    have q1 : ¬ (100 : Int) < (n : Int) := by omega
    have q2 : (100 : Int) < (m : Int) := by omega
    clear p1 p2
    go_wp2_with fail
    go_ret
    exact ⟨rfl, HC1.out⟩
  have q1 : ¬ (100 : Int) < (n : Int) := by omega
  have q2 : ¬ (100 : Int) < (m : Int) := by omega
  have HVK := Lib.hid (HWK.out.fl (by rw [← HN.out]; omega))
  have HVG := Lib.hid (HWG.out.fl (by rw [← HM.out]; omega))
  obtain ⟨w2, hw2⟩ : ∃ w2, w2 = w1.alloc (.cells #[.pointer none, .int .i64 0] 28) := ⟨_, rfl⟩
  obtain ⟨a, ha⟩ : ∃ a, a = w1.heap.size := ⟨_, rfl⟩
  obtain ⟨w3, hw3⟩ : ∃ w3, w3 = w2.alloc (.cells #[.pointer none, .int .i64 0] 28) := ⟨_, rfl⟩
  obtain ⟨b, hb⟩ : ∃ b, b = a + 1 := ⟨_, rfl⟩
  have hsz : w2.heap.size = a + 1 := by rw [hw2, ha]; simp
  have hc2 : Ch (fun _ => False) w1 w2 := by rw [hw2]; exact (Ch.refl _ w1).alloc _ _
  have hc3 : Ch (fun _ => False) w2 w3 := by rw [hw3]; exact (Ch.refl _ w2).alloc _ _
  have hba : w2.heap[a]? = some (.cells #[.pointer none, .int .i64 0] 28 (0, 0)) := by rw [hw2, ha]; exact heap_alloc_new _ _
  have hbb : w3.heap[b]? = some (.cells #[.pointer none, .int .i64 0] 28 (0, 0)) := by rw [hw3, hb, ← hsz]; exact heap_alloc_new _ _
  have HTA := Lib.hid ((TreeIs.new w2 a hba).gr hc3)
  have HTB := Lib.hid (TreeIs.new w3 b hbb)
  have HC3 := Lib.hid ((HC1.out.trans hc2).trans hc3)
  have HLE := Lib.hid (show w.heap.size ≤ a ∧ a < b from ⟨by rw [ha]; exact HC1.out.size, by omega⟩)
  clear hc2 hc3 hba hbb p1 p2
  go_upto_region 6 with fail
  rw [← ha, ← hw2, ← hb, ← hw3]
  clear ha hw2 hb hw3 hsz
  go_wp2_with fail
  go_loopw [8] (fun i wr => ∃ j : Nat, j ≤ m ∧ i = .int .i64 (j : Int) ∧ Hid (OrA b j gs w3 wr)) (fun i _ => m - (intOf i).toNat)
  case atStart => exact ⟨0, Nat.zero_le _, rfl, Lib.hid ⟨0, [], HTB.out, Nat.le_refl 0, (fun x hx => absurd hx (by simp)), Ch.refl _ _⟩⟩
  case round =>
    obtain ⟨j, hj, rfl, HS⟩ := hrel
    have j0 : (0 : Int) ≤ (j : Int) := Int.natCast_nonneg _
    by_cases hlt : j < m
    · have j1 : (j : Int) < (m : Int) := by omega
      obtain ⟨h, L, hT, hLj, hLg, hC⟩ := HS.out
      obtain ⟨bg, og, rfl⟩ := HVG.out.some' (by rw [← HM.out]; omega)
      have hv := (HVG.out.gr HC3.out).ch hC fun b' o' e x => by
        injection e with e
        injection e with e _ _
        have h1 := HVG.out.low' kdSt_ok (by rw [← HM.out]; omega)
        have h2 := HLE.out
        omega
      obtain ⟨k, hxe⟩ : ∃ x, gs[j]? = some x := ⟨_, List.getElem?_eq_getElem (by rw [← HM.out]; exact hlt)⟩
      have c0 : wr.cell? ⟨bg, og + j, none⟩ = some (.string k) := by
        have := hv.cells hxe 0 _ rfl
        rw [show og + j * kdSt.k + 0 = og + j from by show og + j * 1 + 0 = _; omega] at this
        exact this
      have HP := Lib.hid (tput_any hT k (j : Int) (by omega))
      have HK := Lib.hid (And.intro hT.rise (And.intro hLj (And.intro hLg (And.intro hC (List.mem_of_getElem? hxe)))))
      clear hT hLj hLg hC hv hxe HS
      go_wp2_with fail
      refine HP.out.mono ?_
      rintro e w4 ⟨h', rfl, hT2, hc4⟩
      have HS2 : Hid (OrA b (j + 1) gs w3 w4) := Lib.hid ⟨h', _, hT2, by have := put_le1 HK.out.1 k (j : Int); have := HK.out.2.1; omega, fun x hx => by
        rcases mem_put.1 hx with rfl | ⟨q, _⟩
        · exact HK.out.2.2.2.2
        · exact HK.out.2.2.1 x q, HK.out.2.2.2.1.trans hc4⟩
      clear hT2 hc4 c0 HK HP
      go_wp2_with fail
      go_roundw
      case rel => exact ⟨j + 1, by omega, by go_num, HS2⟩
      case measure => simp [intOf]; omega
    · have j1 : ¬ (j : Int) < (m : Int) := by omega
      have HS0 : Hid (OrB b gs w3 wr) := Lib.hid (by obtain ⟨h, L, q1, _, q2, q3⟩ := HS.out; exact ⟨h, L, q1, q2, q3⟩)
      clear HS
      go_wp2_with fail
      go_loopw [9] (fun i wr => ∃ j : Nat, j ≤ m ∧ i = .int .i64 (j : Int) ∧ Hid (OrB b (gs.drop j) w3 wr)) (fun i _ => m - (intOf i).toNat)
      case atStart => exact ⟨0, Nat.zero_le _, rfl, HS0⟩
      case round =>
        clear HS0
        obtain ⟨i, hi, rfl, HS⟩ := hrel
        have i0 : (0 : Int) ≤ (i : Int) := Int.natCast_nonneg _
        by_cases hlt : i < m
        · have j1 : (i : Int) < (m : Int) := by omega
          obtain ⟨h, L, hT, hLg, hC⟩ := HS.out
          obtain ⟨bg, og, rfl⟩ := HVG.out.some' (by rw [← HM.out]; omega)
          have hv := (HVG.out.gr HC3.out).ch hC fun b' o' e x => by
            injection e with e
            injection e with e _ _
            have h1 := HVG.out.low' kdSt_ok (by rw [← HM.out]; omega)
            have h2 := HLE.out
            omega
          have hil : i < gs.length := by rw [← HM.out]; exact hlt
          have hdr : gs.drop i = gs[i] :: gs.drop (i + 1) := List.drop_eq_getElem_cons hil
          obtain ⟨k, hke⟩ : ∃ k, k = gs[i] := ⟨_, rfl⟩
          rw [← hke] at hdr
          have hxe : gs[i]? = some k := by rw [hke]; exact List.getElem?_eq_getElem hil
          have c0 : wr.cell? ⟨bg, og + i, none⟩ = some (.string k) := by
            have := hv.cells hxe 0 _ rfl
            rw [show og + i * kdSt.k + 0 = og + i from by show og + i * 1 + 0 = _; omega] at this
            exact this
          have HP := Lib.hid (tdel_any hT k)
          have HK := Lib.hid (And.intro hdr (And.intro hLg hC))
          clear hT hLg hC hv hxe HS hke hdr hil
          go_wp2_with fail
          refine HP.out.mono ?_
          rintro e w4 ⟨h', rfl, hT2, hc4⟩
          have HS2 : Hid (OrB b (gs.drop (i + 1)) w3 w4) := Lib.hid ⟨h', _, hT2, (fun x hx => by
            obtain ⟨q1, q2⟩ := mem_del.1 hx
            have q3 := HK.out.2.1 x q1
            rw [HK.out.1] at q3
            exact (List.mem_cons.1 q3).resolve_left q2), HK.out.2.2.trans hc4⟩
          clear hT2 hc4 c0 HK HP
          go_wp2_with fail
          go_roundw
          case rel => exact ⟨i + 1, by omega, by go_num, HS2⟩
          case measure => simp [intOf]; omega
        · have j1 : ¬ (i : Int) < (m : Int) := by omega
          obtain ⟨h, L, hT, hLg, hC⟩ := HS.out
          have hL0 : L = [] := List.eq_nil_iff_forall_not_mem.2 fun x hx => by
            have := hLg x hx
            rw [show i = gs.length by rw [← HM.out]; omega, List.drop_length] at this
            cases this
          subst hL0
          have h00 : h = 0 := hT.deep.2.1 rfl
          subst h00
          have HLN : Hid (Calls Try.prog 15 #[.pointer (some ⟨b, 0, none⟩)] wr fun e w' => e = .returned (.int .i64 0) ∧ w' = wr) := Lib.hid (tlen_any hT)
          have HDP : Hid (Calls Try.prog 19 #[.pointer (some ⟨b, 0, none⟩)] wr fun e w' => e = .returned (.int .i64 0) ∧ w' = wr) := Lib.hid (tdeep_any hT (by decide))
          have HSC : Hid (OrC a b 0 ks w3 wr) := Lib.hid ⟨0, 0, TreeIs.other HTA.out hC HTB.out.cell (by have := HLE.out; omega), hT, Nat.le_refl 0, Nat.le_refl 0, hC.mono fun _ _ e => Or.inr e⟩
          clear hT hLg hC HS
          go_wp2_with fail
          refine HLN.out.mono ?_
          rintro e w5 ⟨rfl, rfl⟩
          go_wp2_with fail
          refine HDP.out.mono ?_
          rintro e w6 ⟨rfl, rfl⟩
          clear HLN HDP
          go_wp2_with fail
          go_loopw [10] (fun i wr => ∃ j : Nat, j ≤ n ∧ i = .int .i64 (j : Int) ∧ Hid (OrC a b j ks w3 wr)) (fun i _ => n - (intOf i).toNat)
          case atStart => exact ⟨0, Nat.zero_le _, rfl, HSC⟩
          case round =>
            clear HSC
            obtain ⟨r, hr, rfl, HS⟩ := hrel
            have r0 : (0 : Int) ≤ (r : Int) := Int.natCast_nonneg _
            by_cases hlt : r < n
            · have r1 : (r : Int) < (n : Int) := by omega
              obtain ⟨ha, hb, hTa, hTb, hla, hlb, hC⟩ := HS.out
              obtain ⟨bk, ok, rfl⟩ := HVK.out.some' (by rw [← HN.out]; omega)
              have hv := (HVK.out.gr HC3.out).ch hC fun b' o' e x => by
                injection e with e
                injection e with e _ _
                have h1 := HVK.out.low' kdSt_ok (by rw [← HN.out]; omega)
                have h2 := HLE.out
                omega
              have hrl : r < ks.length := by rw [← HN.out]; exact hlt
              obtain ⟨q, hq⟩ : ∃ q, q = n - 1 - r := ⟨_, rfl⟩
              have hql : q < ks.length := by rw [← HN.out]; omega
              obtain ⟨k, hxe⟩ : ∃ k, ks[r]? = some k := ⟨_, List.getElem?_eq_getElem hrl⟩
              obtain ⟨k2, hxe2⟩ : ∃ k, ks[q]? = some k := ⟨_, List.getElem?_eq_getElem hql⟩
              have hxr : ks.reverse[r]? = some k2 := by rw [List.getElem?_reverse hrl, ← HN.out, ← hq]; exact hxe2
              have t1 : ks.take (r + 1) = ks.take r ++ [k] := by rw [List.take_add_one, hxe]; rfl
              have t2 : ks.reverse.take (r + 1) = ks.reverse.take r ++ [k2] := by rw [List.take_add_one, hxr]; rfl
              have kc : ∀ V, Ch (fun i => i = a ∨ i = b) w3 V → V.cell? ⟨bk, ok + r, none⟩ = some (.string k) ∧ V.cell? ⟨bk, ok + q, none⟩ = some (.string k2) := fun V hV => by
                have hvV := (HVK.out.gr HC3.out).ch hV fun b' o' e x => by
                  injection e with e
                  injection e with e _ _
                  have h1 := HVK.out.low' kdSt_ok (by rw [← HN.out]; omega)
                  have h2 := HLE.out
                  omega
                have z1 := hvV.cells hxe 0 _ rfl
                have z2 := hvV.cells hxe2 0 _ rfl
                rw [show ok + r * kdSt.k + 0 = ok + r from by show ok + r * 1 + 0 = _; omega] at z1
                rw [show ok + q * kdSt.k + 0 = ok + q from by show ok + q * 1 + 0 = _; omega] at z2
                exact ⟨z1, z2⟩
              have c0 := (kc _ hC).1
              have hqi : (n : Int) - 1 - (r : Int) = (q : Int) := by omega
              have q0 : (0 : Int) ≤ (q : Int) := Int.natCast_nonneg _
              have q1' : (q : Int) < (n : Int) := by omega
              have HP := Lib.hid (tput_any hTa k 1 (by omega))
              have HK := Lib.hid (And.intro t1 (And.intro t2 (And.intro kc (And.intro hla hlb))))
              have HT := Lib.hid (And.intro hTa (And.intro hTb hC))
              clear hTa hTb hla hlb hC hv hxe hxe2 hxr hrl hql t1 t2 kc HS hq
              go_wp2_with fail
              refine HP.out.mono ?_
              rintro e w4 ⟨h', rfl, hT2, hc4⟩
              have hC4 := HT.out.2.2.trans (hc4.mono fun _ _ e => Or.inl e)
              have hTb4 := TreeIs.other HT.out.2.1 hc4 HT.out.1.cell (by have := HLE.out; omega)
              have c1 := (HK.out.2.2.1 _ hC4).2
              have HP2 := Lib.hid (tput_any hTb4 k2 1 (by have := HK.out.2.2.2.2; omega))
              have HT4 := Lib.hid (And.intro hT2 (And.intro hTb4 hC4))
              clear hT2 hc4 hC4 hTb4 c0 HP
              go_wp2_with fail
              refine HP2.out.mono ?_
              rintro e w5 ⟨h'', rfl, hT5, hc5⟩
              have HS2 : Hid (OrC a b (r + 1) ks w3 w5) := Lib.hid ⟨h', h'', by
                  rw [HK.out.1, putsL_snoc]
                  exact TreeIs.other HT4.out.1 hc5 HT4.out.2.1.cell (by have := HLE.out; omega), by
                  rw [HK.out.2.1, putsL_snoc]
                  exact hT5, by
                  rw [HK.out.1, putsL_snoc]
                  have z1 := put_le1 (rise_puts (ks.take r)) k 1
                  have z2 := HK.out.2.2.2.1
                  omega, by
                  rw [HK.out.2.1, putsL_snoc]
                  have z1 := put_le1 (rise_puts (ks.reverse.take r)) k2 1
                  have z2 := HK.out.2.2.2.2
                  omega, HT4.out.2.2.trans (hc5.mono fun _ _ e => Or.inr e)⟩
              clear hT5 hc5 c1 HK HP2 HT HT4
              go_wp2_with fail
              go_roundw
              case rel => exact ⟨r + 1, by omega, by go_num, HS2⟩
              case measure => simp [intOf]; omega
            · have r1 : ¬ (r : Int) < (n : Int) := by omega
              obtain ⟨ha, hb, hTa, hTb, hla, hlb, hC⟩ := HS.out
              rw [show r = ks.length by rw [← HN.out]; omega, List.take_length] at hTa
              rw [show r = ks.reverse.length by rw [List.length_reverse, ← HN.out]; omega, List.take_length, puts_back] at hTb
              have HCW := Lib.hid (HC3.out.new (hC.mono fun i _ e => by have := HLE.out; omega))
              obtain ⟨L, hL⟩ : ∃ L, L = putsL ks := ⟨_, rfl⟩
              rw [← hL] at hTa hTb
              have cutA : ∀ X : List Kv, cutL (-1) X = X := fun X => rfl
              have hta := told_all (some a) ha L ⟨#[]⟩ (-1) wr hTa
              rw [cutA, fromL_empty] at hta
              have hll : L.length ≤ 1000000 := TreeO.le (o := some a) hTa
              have htb := fun w' (c : Ch (fun _ => False) wr w') => told_all (some b) hb L ⟨#[]⟩ (-1) w' (TreeIs.gr hTb c)
              simp only [cutA, fromL_empty] at htb
              have HTA2 := Lib.hid hta
              have HTB2 := Lib.hid htb
              have HLL := Lib.hid hll
              clear hTa hTb hla hlb hC hL hta htb hll HS cutA
              go_wp2_with fail
              refine HTA2.out.mono ?_
              rintro e w7 ⟨v1, rfl, hO1, hc7⟩
              have htb := HTB2.out w7 hc7
              have HX := Lib.hid htb
              have HO1 := Lib.hid (And.intro hO1 hc7)
              clear htb hO1 hc7
              go_wp2_with fail
              refine HX.out.mono ?_
              rintro e w8 ⟨v2, rfl, hO2, hc8⟩
              obtain ⟨A3, C3, rfl⟩ := HO1.out.1.len
              obtain ⟨A4, C4, rfl⟩ := hO2.len
              have hs := rsame_any A3 A4 C3 C4 L w8 ((HO1.out.1.gr hc8).read kdKv_ok (by have := HLL.out; omega)) (hO2.read kdKv_ok (by have := HLL.out; omega)) HLL.out
              have HSM := Lib.hid hs
              have HC8 := Lib.hid (HCW.out.trans (HO1.out.2.trans hc8))
              clear hs hO2 hc8
              go_wp2_with fail
              refine HSM.out.mono ?_
              rintro e w9 ⟨rfl, hc9⟩
              have HFIN : Hid (Told w (.returned (.bool true)) w9) := Lib.hid ⟨rfl, HC8.out.trans hc9⟩
              clear hc9
              go_wp2_with fail
              go_ret
              exact HFIN.out
#print axioms treeOrder_of
end Go.Proofs.Ytkpgaejmhddkdaa
