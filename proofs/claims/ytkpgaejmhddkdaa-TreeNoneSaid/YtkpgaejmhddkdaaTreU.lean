/-
  A tree: grown, shrunk, looked up, how deep.
-/
import Derived.Test.YtkpgaejmhddkdaaTreT
namespace Go.Proofs.Ytkpgaejmhddkdaa
open Go.RowKit
set_option linter.unusedVariables false
set_option maxRecDepth 100000
set_option linter.unusedSimpArgs false

/-- What grown answers. -/
def GrP (F : Nat → Prop) (w : World) (L : List Kv) (e : Ending) (w' : World) : Prop := ∃ nb h m, e = .returned (.pointer (some ⟨nb, 0, none⟩)) ∧ TrIs (fun i => F i ∨ w.heap.size ≤ i) (h + 1) w' (some nb) m L ∧ 1 ≤ m ∧ m ≤ 7 ∧ Ch (fun _ => False) w w'
def GrP2 (F : Nat → Prop) (w : World) (nb : Nat) (L : List Kv) (e : Ending) (w' : World) : Prop := e = .returned (.tuple #[]) ∧ ∃ h m, TrIs (fun i => F i ∨ w.heap.size ≤ i) (h + 1) w' (some nb) m L ∧ (1 ≤ m ∧ m ≤ 7) ∧ Ch (fun _ => False) w w'
set_option maxHeartbeats 1600000 in
theorem grown_any {F : Nat → Prop} {w : World} {b m h : Nat} {L : List Kv} (ht : TrIs F (h + 1) w (some b) m L) (h1 : 1 ≤ m) (h8 : m ≤ 8) (hFb : ∀ i, F i → i < w.heap.size) : Calls Try.prog 32 #[.pointer (some ⟨b, 0, none⟩)] w (GrP F w L) := by
  have HT := Lib.hid ht
  obtain ⟨b', ps, cs, eb, hnd, em, hk⟩ := ht
  injection eb with eb
  subst eb
  obtain ⟨_, Aq, Cq, Ad, Cd, hbq, _, _⟩ := id hnd
  have c0 : w.cell? ⟨b, 0, none⟩ = some (.slice Aq m Cq) := by rw [blk_cell hbq, em]; rfl
  have HND := Lib.hid hnd
  have HKD := Lib.hid hk
  have HEM := Lib.hid em
  clear hbq hnd hk em
  by_cases h7 : m ≤ 7
  · have t1 : (m : Int) ≤ 7 := by omega
    have HFIN : Hid (GrP F w L (.returned (.pointer (some ⟨b, 0, none⟩))) w) := Lib.hid ⟨b, h, m, rfl, HT.out.mono fun i hi _ => Or.inl hi, h1, h7, Ch.refl _ _⟩
    clear h7 h1 h8
    go_enter Try.func32, Try.ntmps32
    go_wp2_with fail
    go_ret
    exact HFIN.out
  · have t1 : ¬ (m : Int) ≤ 7 := by omega
    have k1 := (Ch.refl (fun _ => False) w).alloc #[.pointer (some ⟨b, 0, none⟩)] 26
    have k2 := k1.alloc #[.slice none 0 0, .slice (some ⟨w.heap.size, 0, none⟩) 1 1] 60
    have hown : OwnN w ((w.alloc (.cells #[.pointer (some ⟨b, 0, none⟩)] 26)).alloc (.cells #[.slice none 0 0, .slice (some ⟨w.heap.size, 0, none⟩) 1 1] 60)) (w.heap.size + 1) (.slice none 0 0) (.slice (some ⟨w.heap.size, 0, none⟩) 1 1) ([] ++ []) ([] ++ b :: []) :=
      ⟨Nat.le_succ _, alloc2_new _ _ _, FlO.start kdPr w _, ⟨rfl, Or.inr ⟨w.heap.size, 1, #[.pointer (some ⟨b, 0, none⟩)], rfl, Nat.le_refl _, alloc2_old _ _ _, Nat.le_refl _, by unfold maxLen; omega, rfl, rfl⟩⟩⟩
    obtain ⟨q1, x, q2, d1, d2, m1, m2, m3, m4⟩ := mid_split ps cs (by have := HEM.out; omega) ((kids_len HKD.out).imp And.right And.right)
    have hq := congrArg List.length m1
    simp only [List.length_append, List.length_cons] at hq
    have hpl : ps.length = 8 := by have := HEM.out; omega
    have hF : ∀ i, F i → ¬ OwnS (w.heap.size + 1) (.slice none 0 0) (.slice (some ⟨w.heap.size, 0, none⟩) 1 1) i := fun i hi hs => by
      have h1 := (hown.at hs).1
      have h2 := hFb i hi
      omega
    have hnd2 := HND.out.ch k2 fun _ _ f => f
    have hkd2 : KidsP (TrIs F h ((w.alloc (.cells #[.pointer (some ⟨b, 0, none⟩)] 26)).alloc (.cells #[.slice none 0 0, .slice (some ⟨w.heap.size, 0, none⟩) 1 1] 60))) h ps cs L := HKD.out.imp fun p m l q => q.gr k2
    rw [m1, m2] at hnd2 hkd2
    have hsp := (split_any (F := F) hown hnd2 hF rfl (by simp) (by simp) (by omega) (by omega) (by omega) k2.size m4).mono (R' := GrP2 F w (w.heap.size + 1) L) fun e w' hs => by
      obtain ⟨vp', vc', lb, rb, rfl, ho, hg, n1, n2, hc⟩ := hs
      obtain ⟨L1, L2, rfl, g1, g2⟩ := kids_split hkd2 m4
      have kf : Ch (fun _ => False) w w' := k2.new (hc.mono fun i _ hi => (hown.at hi).1)
      have hG : ∀ p m l, TrIs F h ((w.alloc (.cells #[.pointer (some ⟨b, 0, none⟩)] 26)).alloc (.cells #[.slice none 0 0, .slice (some ⟨w.heap.size, 0, none⟩) 1 1] 60)) p m l → TrIs (fun i => F i ∨ w.heap.size ≤ i) h w' p m l := fun p m l q => (q.ch hc hF).mono fun i hi _ => Or.inl hi
      refine ⟨rfl, h + 1, 1, own_tree (F := F) ho (by simp) (by simp) (fun i hi => Or.inr hi) (Or.inr ⟨Nat.succ_pos _, [L1, L2], rfl, rfl, .cons ⟨q1.length, by omega, by omega, lb, q1, d1, rfl, n1.mono fun i hi _ => Or.inr (Nat.le_trans k2.size hi.1), rfl, g1.imp hG⟩ (.cons ⟨q2.length, by omega, by omega, rb, q2, d2, rfl, n2.mono fun i hi _ => Or.inr (Nat.le_trans k2.size hi.1), rfl, g2.imp hG⟩ .nil)⟩), ⟨Nat.le_refl _, by omega⟩, kf⟩
    have HSP := Lib.hid hsp
    clear h7 h1 h8 k1 k2 hown m1 m2 m3 m4 hq hpl hF hnd2 hkd2 hsp
    go_enter Try.func32, Try.ntmps32
    go_wp2_with fail
    refine Calls.mono (by exact HSP.out) ?_
    rintro e w' ⟨rfl, hh, mm, e1, ⟨z1, z2⟩, e2⟩
    have HFIN : Hid (GrP F w L (.returned (.pointer (some ⟨w.heap.size + 1, 0, none⟩))) w') := Lib.hid ⟨_, hh, mm, rfl, e1, z1, z2, e2⟩
    clear e1 e2 z1 z2
    go_wp2_with fail
    go_ret
    exact HFIN.out
#print axioms grown_any
/-- What shrunk answers. -/
def ShP (F : Nat → Prop) (w : World) (L : List Kv) (e : Ending) (w' : World) : Prop := ∃ p h' m', e = .returned (ptrV p) ∧ w' = w ∧ TrIs F h' w p m' L ∧ (0 < h' → 1 ≤ m' ∧ m' ≤ 7)
theorem shrunk_any {F : Nat → Prop} {w : World} {b m h : Nat} {L : List Kv} (ht : TrIs F (h + 1) w (some b) m L) (hm : m ≤ 7) : Calls Try.prog 30 #[.pointer (some ⟨b, 0, none⟩)] w (ShP F w L) := by
  have HT := Lib.hid ht
  obtain ⟨b', ps, cs, eb, hnd, em, hk⟩ := ht
  injection eb with eb
  subst eb
  obtain ⟨_, Aq, Cq, Ad, Cd, hbq, _, _⟩ := id hnd
  have c0 : w.cell? ⟨b, 0, none⟩ = some (.slice Aq m Cq) := by rw [blk_cell hbq, em]; rfl
  by_cases h0 : 0 < m
  · have t1 : (0 : Int) < (m : Int) := by omega
    have HFIN := Lib.hid (show ShP F w L (.returned (.pointer (some ⟨b, 0, none⟩))) w from ⟨some b, h + 1, m, rfl, rfl, HT.out, fun _ => ⟨h0, hm⟩⟩)
    clear hbq hnd hk em h0 hm
    go_enter Try.func30, Try.ntmps30
    go_wp2_with fail
    go_ret
    exact HFIN.out
  · have m0 : m = 0 := by omega
    have hps : ps = [] := List.eq_nil_of_length_eq_zero (by omega)
    subst hps
    subst m0
    have hch : Calls Try.prog 26 #[.pointer (some ⟨b, 0, none⟩), .int .i64 0] w fun e w' => e = .returned (ptrV cs[0]?) ∧ w' = w := nchild_any 0 hnd (by
      rcases kids_len hk with ⟨_, e⟩ | ⟨_, e⟩
      · exact Or.inl e
      · exact Or.inr (by omega))
    have hfin : ShP F w L (.returned (ptrV cs[0]?)) w := by
      rcases hk with ⟨e1, e2, e3⟩ | ⟨e1, Ls, e2, e3, e4⟩
      · exact ⟨none, 0, 0, by rw [e2]; rfl, rfl, ⟨rfl, rfl, e3⟩, fun f => absurd f (Nat.lt_irrefl 0)⟩
      · match cs, Ls, e2, e4, e3 with
        | [c], [l], _, .cons ⟨mc, c3, c7, hc⟩ .nil, e3 =>
          exact ⟨some c, h, mc, rfl, rfl, by rw [e3]; exact hc, fun _ => ⟨by omega, c7⟩⟩
        | _, [], e2, _, _ => simp at e2
        | _, _ :: _ :: _, e2, _, _ => simp at e2
    have HCH := Lib.hid hch
    have HFIN := Lib.hid hfin
    have c0 : w.cell? ⟨b, 0, none⟩ = some (.slice Aq 0 Cq) := c0
    clear hbq hnd hk em h0 hm hch hfin
    go_enter Try.func30, Try.ntmps30
    go_wp2_with fail
    refine HCH.out.mono ?_
    rintro e w' ⟨rfl, rfl⟩
    obtain ⟨v, hv⟩ : ∃ v, v = ptrV cs[0]? := ⟨_, rfl⟩
    rw [← hv]
    have HV := Lib.hid hv
    clear hv
    go_wp2_with fail
    go_ret
    have := HFIN.out
    rw [← HV.out] at this
    exact this
#print axioms shrunk_any
end Go.Proofs.Ytkpgaejmhddkdaa
