/-
  The tree itself: Get, Len, Deep, Put, Del.
-/
import Derived.Test.YtkpgaejmhddkdaaTreU
namespace Go.Proofs.Ytkpgaejmhddkdaa
open Go.RowKit
set_option linter.unusedVariables false
set_option maxRecDepth 100000
set_option linter.unusedSimpArgs false

/-- A tree at t that has L. -/
def TreeIs (w : World) (t h : Nat) (L : List Kv) : Prop := ∃ F root m, w.heap[t]? = some (.cells #[ptrV root, .int .i64 (L.length : Int)] 28 (0, 0)) ∧ TrIs F h w root m L ∧ (0 < h → 1 ≤ m ∧ m ≤ 7) ∧ Rise L ∧ (∀ i, F i → i < w.heap.size ∧ i ≠ t) ∧ L.length ≤ 1000000
theorem TreeIs.gr {w w' : World} {t h : Nat} {L : List Kv} (k : TreeIs w t h L) (c : Ch (fun _ => False) w w') : TreeIs w' t h L := by
  obtain ⟨F, root, m, h1, h2, h3, h4, h5, h6⟩ := k
  exact ⟨F, root, m, (c.block t (blk_lt h1) (fun f => f)).trans h1, h2.gr c, h3, h4, fun i hi => ⟨Nat.lt_of_lt_of_le (h5 i hi).1 c.size, (h5 i hi).2⟩, h6⟩
theorem ttop_any {w : World} {t h : Nat} {root : Option Nat} {v : Value} (hb : w.heap[t]? = some (.cells #[ptrV root, v] 28 (0, 0))) : Calls Try.prog 24 #[.pointer (some ⟨t, 0, none⟩)] w fun e w' => e = .returned (ptrV root) ∧ w' = w := by
  cases root with
  | none =>
    have c0 : w.cell? ⟨t, 0, none⟩ = some (.pointer none) := by rw [blk_cell hb]; rfl
    clear hb
    go_enter Try.func24, Try.ntmps24
    go_wp2
    go_ret
    exact ⟨rfl, rfl⟩
  | some b =>
    have c0 : w.cell? ⟨t, 0, none⟩ = some (.pointer (some ⟨b, 0, none⟩)) := by rw [blk_cell hb]; rfl
    clear hb
    go_enter Try.func24, Try.ntmps24
    go_wp2
    go_ret
    exact ⟨rfl, rfl⟩
theorem tlen_any {w : World} {t h : Nat} {L : List Kv} (ht : TreeIs w t h L) : Calls Try.prog 15 #[.pointer (some ⟨t, 0, none⟩)] w fun e w' => e = .returned (.int .i64 (L.length : Int)) ∧ w' = w := by
  obtain ⟨F, root, m, hb, _⟩ := ht
  have c1 : w.cell? ⟨t, 1, none⟩ = some (.int .i64 (L.length : Int)) := by rw [blk_cell hb]; rfl
  clear hb
  go_enter Try.func15, Try.ntmps15
  go_wp2
  go_ret
  exact ⟨rfl, rfl⟩
#print axioms tlen_any
set_option maxHeartbeats 1600000 in
theorem tdeep_any {w : World} {t h : Nat} {L : List Kv} (ht : TreeIs w t h L) (hh : h ≤ 1000) : Calls Try.prog 19 #[.pointer (some ⟨t, 0, none⟩)] w fun e w' => e = .returned (.int .i64 (h : Int)) ∧ w' = w := by
  obtain ⟨F, root, m, hb, hT, _⟩ := ht
  have HTOP := Lib.hid (ttop_any (h := h) hb)
  have HT := Lib.hid hT
  clear hb hT
  have h1 : (h : Int) ≤ 1000 := by omega
  have HH := Lib.hid hh
  clear hh
  go_enter Try.func19, Try.ntmps19
  go_wp2_with fail
  refine HTOP.out.mono ?_
  rintro e w1 ⟨rfl, rfl⟩
  obtain ⟨v, hv⟩ : ∃ v, v = ptrV root := ⟨_, rfl⟩
  rw [← hv]
  have HV := Lib.hid hv
  clear hv HTOP
  go_wp2_with fail
  go_loopg [3, 4] h (fun gk d p wr => ∃ (o : Option Nat) (m : Nat) (L2 : List Kv) (q : Nat), Hid (p = ptrV o) ∧ d = .int .i64 (q : Int) ∧ Hid (q + gk = h) ∧ Hid (TrIs F gk wr o m L2) ∧ Hid (wr = w1))
  case atStart => exact ⟨root, m, L, 0, HV, rfl, Lib.hid (Nat.zero_add _), HT, Lib.hid rfl⟩
  case round =>
    clear HV HT
    obtain ⟨o, m, L2, q, HP, rfl, HQ, HT, HW⟩ := hrel
    have q0 : (0 : Int) ≤ (q : Int) := Int.natCast_nonneg _
    have q1 : (q : Int) ≤ 1000 := by have := HQ.out; have := HH.out; omega
    have hp := HP.out
    cases gk with
    | zero =>
      have ho : o = none := HT.out.1
      rw [ho] at hp
      have hp2 : u4 = .pointer none := hp
      subst hp2
      have HE := Lib.hid (show q = h from HQ.out)
      clear ho hp
      go_wp2_with fail
      go_ret
      exact ⟨by rw [HE.out]; rfl, HW.out⟩
    | succ g =>
      obtain ⟨b, ps, cs, eb, hnd, em, hk⟩ := HT.out
      rw [eb] at hp
      have hp2 : u4 = .pointer (some ⟨b, 0, none⟩) := hp
      subst hp2
      have hch : Calls Try.prog 26 #[.pointer (some ⟨b, 0, none⟩), .int .i64 0] wr fun e w' => e = .returned (ptrV cs[0]?) ∧ w' = wr := nchild_any 0 hnd (by
        rcases kids_len hk with ⟨_, e⟩ | ⟨_, e⟩
        · exact Or.inl e
        · exact Or.inr (by omega))
      have hnext : ∃ m' L', TrIs F g wr cs[0]? m' L' := by
        rcases hk with ⟨e1, e2, e3⟩ | ⟨e1, Ls, e2, e3, e4⟩
        · rw [e1, e2]; exact ⟨0, [], rfl, rfl, rfl⟩
        · cases e4 with
          | nil => simp at e2
          | cons r _ =>
            obtain ⟨mc, _, _, hc⟩ := r
            exact ⟨mc, _, hc⟩
      have HCH := Lib.hid hch
      have HNX := Lib.hid hnext
      clear hnd hk em eb hp hch hnext HT
      go_wp2_with fail
      refine HCH.out.mono ?_
      rintro e w2 ⟨rfl, rfl⟩
      obtain ⟨v, hv⟩ : ∃ v, v = ptrV cs[0]? := ⟨_, rfl⟩
      rw [← hv]
      have HV := Lib.hid hv
      clear hv HCH
      go_wp2_with fail
      go_roundg g
      case measure => omega
      case rel =>
        obtain ⟨m', L', hn⟩ := HNX.out
        exact ⟨_, m', L', q + 1, HV, by go_num, Lib.hid (by have := HQ.out; omega), Lib.hid hn, HW⟩
#print axioms tdeep_any
end Go.Proofs.Ytkpgaejmhddkdaa
