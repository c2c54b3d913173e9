/-
  The last pair of a tree; how deep it is, and what is in it, looked up.
-/
import Derived.Test.YtkpgaejmhddkdaaTreR
namespace Go.Proofs.Ytkpgaejmhddkdaa
open Go.RowKit
set_option linter.unusedVariables false
set_option maxRecDepth 100000
set_option linter.unusedSimpArgs false

def zeroPr : Array Value := #[.string ⟨#[]⟩, .int .i64 0]
set_option maxHeartbeats 3200000 in
theorem last_any {F : Nat → Prop} {w : World} {b m h : Nat} {L : List Kv} (ht : TrIs F (h + 1) w (some b) m L) (hm : 1 ≤ m) (hm2 : m ≤ 100) : Calls Try.prog 38 #[.pointer (some ⟨b, 0, none⟩)] w fun e w' => ∃ X x, L = X ++ [x] ∧ e = .returned (.agg #[.string x.1, .int .i64 x.2]) ∧ Ch (fun _ => False) w w' := by
  obtain ⟨w1, hw1⟩ : ∃ w1, w1 = w.alloc (.cells zeroPr 56) := ⟨_, rfl⟩
  obtain ⟨H, hH⟩ : ∃ H, H = w.heap.size := ⟨_, rfl⟩
  have hk1 : Ch (fun _ => False) w w1 := by rw [hw1]; exact (Ch.refl _ w).alloc _ _
  have hbk : w1.heap[H]? = some (.cells zeroPr 56 (0, 0)) := by rw [hw1, hH]; exact heap_alloc_new w _
  have HT := Lib.hid (ht.gr hk1)
  have HK := Lib.hid hk1
  have HB := Lib.hid hbk
  have HM := Lib.hid (And.intro hm hm2)
  have HHW := Lib.hid (Nat.le_of_eq hH.symm)
  have HW := Lib.hid hw1
  clear ht hm hm2 hk1 hbk hw1
  go_enter Try.func38, Try.ntmps38
  go_wp2_with fail
  have hw2 := HW.out
  unfold zeroPr at hw2
  rw [← hH, ← hw2]
  clear hw2 hH HW
  go_loopg [0, 3, 4, 5, 6, 7, 8, 9, 10, 11, 12, 13, 14, 15, 16, 17, 18, 19] h (fun gk p _ _ _ _ _ _ _ _ _ _ _ _ _ _ _ _ _ wr => ∃ (b m : Nat) (L2 X : List Kv), p = .pointer (some ⟨b, 0, none⟩) ∧ Hid (TrIs F (gk + 1) wr (some b) m L2) ∧ Hid (1 ≤ m ∧ m ≤ 100) ∧ Hid (L = X ++ L2) ∧ Hid (Ch (fun _ => False) w wr) ∧ Hid (wr.heap[H]? = some (.cells zeroPr 56 (0, 0))))
  case atStart => exact ⟨b, m, L, [], rfl, HT, HM, Lib.hid rfl, HK, HB⟩
  case round =>
    clear HT HM HK HB
    obtain ⟨b, m, L2, X, rfl, HT, HM, HL, HK, HB⟩ := hrel
    obtain ⟨b', ps, cs, eb, hnd, em, hk⟩ := HT.out
    injection eb with eb
    subst eb
    obtain ⟨_, Aq, Cq, Ad, Cd, hbq, hrp, hrd⟩ := hnd
    have hmm := HM.out
    rw [em] at hmm
    obtain ⟨g, o, rfl, hpc⟩ := hrp.v.at' (by omega)
    obtain ⟨n, hn⟩ : ∃ n, n = ps.length := ⟨_, rfl⟩
    obtain ⟨t, ht⟩ : ∃ t, t = cs.length := ⟨_, rfl⟩
    rw [← hn, ← ht] at hbq
    have c0 : wr.cell? ⟨b, 0, none⟩ = some (.slice (some ⟨g, o, none⟩) n Cq) := by rw [blk_cell hbq]; rfl
    have c1 : wr.cell? ⟨b, 1, none⟩ = some (.slice Ad t Cd) := by rw [blk_cell hbq]; rfl
    have n0 : (0 : Int) < (n : Int) := by omega
    have n1 : (n : Int) ≤ 100 := by omega
    rcases Nat.eq_zero_or_pos gk with h0 | h0
    · obtain ⟨rfl, rfl⟩ : cs = [] ∧ L2 = ps := by
        rcases hk with ⟨_, e1, e2⟩ | ⟨e, _⟩
        · exact ⟨e1, e2⟩
        · omega
      have t0 : t = 0 := ht
      subst t0
      obtain ⟨Y, r, eY, hY⟩ := list_cut L2 (n - 1) (by omega)
      obtain ⟨x, rfl⟩ : ∃ x, r = [x] := by
        have := congrArg List.length eY
        rw [List.length_append] at this
        match r, (show r.length = 1 by omega) with
        | [x], _ => exact ⟨x, rfl⟩
      have hx : L2[n - 1]? = some x := by rw [eY, List.getElem?_append_right (by omega)]; simp [hY]
      have p0 : wr.cell? ⟨g, o + (n - 1) * 2, none⟩ = some (.string x.1) := hpc _ x hx 0 _ rfl
      have p1 : wr.cell? ⟨g, o + (n - 1) * 2 + 1, none⟩ = some (.int .i64 x.2) := hpc _ x hx 1 _ rfl
      have HL2 := Lib.hid (show L = (X ++ Y) ++ [x] by rw [HL.out, eY, List.append_assoc])
      have i1 : ((n : Int) - 1).toNat = n - 1 := by omega
      have i2 : (0 : Int) ≤ (n : Int) - 1 := by omega
      have i3 : (n : Int) - 1 < (n : Int) := by omega
      have s0 : wr.cell? ⟨H, 0, none⟩ = some (.string ⟨#[]⟩) := by rw [blk_cell HB.out]; rfl
      have s1 : wr.cell? ⟨H, 1, none⟩ = some (.int .i64 0) := by rw [blk_cell HB.out]; rfl
      have s2 : wr.frozen? ⟨H, 0, none⟩ = false := blk_frozen HB.out
      have s3 : wr.frozen? ⟨H, 1, none⟩ = false := blk_frozen HB.out
      clear hbq hrp hrd hpc hn ht hk em hmm hx eY hY h0
      go_wp2_with fail
      go_region
      go_wp2_with fail
      have hfb : (((wr.setCell ⟨H, 0, none⟩ (.string x.1)).setCell ⟨H, 1, none⟩ (.int .i64 x.2)).drew).heap[H]? = some (.cells #[.string x.1, .int .i64 x.2] 56 (0, 0)) := by
        show ((wr.setCell ⟨H, 0, none⟩ (.string x.1)).setCell ⟨H, 1, none⟩ (.int .i64 x.2)).heap[H]? = _
        rw [blk_set (blk_set HB.out _)]
        rfl
      exact bodyPost_ret (v := .agg #[.string x.1, .int .i64 x.2]) (results_cell_row Try.results38 _ _ H 56 #[.string x.1, .int .i64 x.2] (0, 0) _ rfl hfb Try.underlying56 rfl (by kernel_rfl)) rfl ⟨_, x, HL2.out, rfl, ((HK.out.setCell (p := ⟨H, 0, none⟩) (Or.inr HHW.out) _).setCell (p := ⟨H, 1, none⟩) (Or.inr HHW.out) _).drew⟩
    · obtain ⟨g', rfl⟩ : ∃ g', gk = g' + 1 := ⟨gk - 1, by omega⟩
      have hk' : KidsP (TrIs F (g' + 1) wr) (g' + 1) (ps ++ []) cs L2 := by rw [List.append_nil]; exact hk
      obtain ⟨cA, c, cB, LA, l, LB, mc, rfl, hla, hlb, rfl, c3, c7, hct, hA, hB'⟩ := kids_gap hk' h0
      have hcB : cB = [] := List.eq_nil_of_length_eq_zero (by rw [← hlb]; rfl)
      subst hcB
      have hcx : (cA ++ [c])[n]? = some c := by rw [hn, hla, List.getElem?_append_right (Nat.le_refl _)]; simp
      have ht' : t = n + 1 := by rw [ht, List.length_append, ← hla, hn]; rfl
      obtain ⟨gd, od, rfl, hcd⟩ := hrd.v.at' (by simp)
      have r1 : wr.cell? ⟨gd, od + n, none⟩ = some (.pointer (some ⟨c, 0, none⟩)) := by
        have := hcd n c hcx 0 _ rfl
        rw [show kdNd.k = 1 from rfl, Nat.mul_one] at this; exact this
      have t0 : (0 : Int) < (t : Int) := by omega
      have t1 : (n : Int) < (t : Int) := by omega
      have HT2 := Lib.hid hct
      have HL2 := Lib.hid (show L = (X ++ fr ps LA) ++ l by rw [HL.out]; simp [bk])
      have HM2 := Lib.hid (show 1 ≤ mc ∧ mc ≤ 100 by omega)
      clear hbq hrp hrd hpc hn ht hk hk' em hmm hcx hct hcd ht' c3 c7 hA hB' hla hlb h0
      go_wp2_with fail
      go_region
      go_wp2_with fail
      go_roundg g'
      case measure => omega
      case rel => exact ⟨c, mc, l, _, rfl, Lib.hid (HT2.out.gr ((Ch.refl (fun _ => False) wr).drew)), HM2, HL2, Lib.hid HK.out.drew, HB⟩
#print axioms last_any
end Go.Proofs.Ytkpgaejmhddkdaa
