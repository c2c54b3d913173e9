/-
  find, child and copied of a node, walked.
-/
import Derived.Test.YtkpgaejmhddkdaaTreK
namespace Go.Proofs.Ytkpgaejmhddkdaa
open Go.RowKit
set_option linter.unusedVariables false
set_option maxRecDepth 100000
set_option linter.unusedSimpArgs false

theorem nfind_any {F : Nat → Prop} {w : World} {b : Nat} {ps : List Kv} {cs : List Nat} (k : ByteArray) (h : NdAt F w b ps cs) (hr : Rise ps) (hl : ps.length ≤ 1000) :
    Calls Try.prog 25 #[.pointer (some ⟨b, 0, none⟩), .string k] w (FindP ps k w) := by
  obtain ⟨_, A, C, A2, C2, hb, h1, h2⟩ := h
  have c0 : w.cell? ⟨b, 0, none⟩ = some (.slice A ps.length C) := by rw [blk_cell hb]; rfl
  have HB := Lib.hid (bsf_any A C ps k w h1.v hr hl)
  obtain ⟨n, hn⟩ : ∃ n, n = ps.length := ⟨_, rfl⟩
  rw [← hn] at c0 HB
  clear h1 h2 hb hr hl hn
  go_enter Try.func25, Try.ntmps25
  go_wp2_with fail
  refine HB.out.mono ?_
  rintro e w1 ⟨x, y, e1, rfl, e2, e3, e4⟩
  have HF : Hid (FindP ps k w (.returned (.tuple #[.int .i64 (x.length : Int), .bool (hereB y k)])) w1) := Lib.hid ⟨x, y, e1, rfl, e2, e3, e4⟩
  clear e1 e2 e3 e4
  go_wp2_with fail
  go_ret2
  exact HF.out
#print axioms nfind_any
theorem nchild_any {F : Nat → Prop} {w : World} {b : Nat} {ps : List Kv} {cs : List Nat} (i : Nat) (h : NdAt F w b ps cs) (hi : cs = [] ∨ i < cs.length) :
    Calls Try.prog 26 #[.pointer (some ⟨b, 0, none⟩), .int .i64 (i : Int)] w fun e w' => e = .returned (ptrV cs[i]?) ∧ w' = w := by
  obtain ⟨_, A, C, A2, C2, hb, h1, h2⟩ := h
  have c1 : w.cell? ⟨b, 1, none⟩ = some (.slice A2 cs.length C2) := by rw [blk_cell hb]; rfl
  have hcap := h2.v.le
  rcases hi with rfl | hi
  · have c1 : w.cell? ⟨b, 1, none⟩ = some (.slice A2 0 C2) := c1
    clear hb h1 h2
    go_enter Try.func26, Try.ntmps26
    go_wp2
    go_ret
    exact ⟨rfl, rfl⟩
  · obtain ⟨b2, o2, rfl, hc⟩ := h2.v.at' (by omega)
    have hx : cs[i]? = some cs[i] := List.getElem?_eq_getElem hi
    obtain ⟨c, hce⟩ : ∃ c, cs[i]? = some c := ⟨_, hx⟩
    have c2 : w.cell? ⟨b2, o2 + i, none⟩ = some (.pointer (some ⟨c, 0, none⟩)) := by have := hc i c hce 0 _ rfl; rw [show kdNd.k = 1 from rfl, Nat.mul_one] at this; exact this
    rw [hce]
    obtain ⟨n, hn⟩ : ∃ n, n = cs.length := ⟨_, rfl⟩
    rw [← hn] at c1 hi
    have i0 : (0 : Int) ≤ (i : Int) := Int.natCast_nonneg _
    have i1 : (i : Int) < (n : Int) := by omega
    have n0 : ¬ (n : Int) = 0 := by omega
    clear hb h1 h2 hc hx hce hn hcap
    go_enter Try.func26, Try.ntmps26
    go_wp2
    go_ret
    exact ⟨rfl, rfl⟩
#print axioms nchild_any
/-- The answer of what makes a row, written out. -/
def RowS {α : Type} (K : Kf α) (w : World) (n : Nat) (L : List α) (e : Ending) (w' : World) : Prop := ∃ A C, e = .returned (.slice A n C) ∧ FlO K w w' (.slice A n C) L ∧ Ch (fun _ => False) w w'
theorem RowP.form {α : Type} {K : Kf α} {w : World} {L : List α} {e : Ending} {w' : World} (h : RowP K w L e w') : RowS K w L.length L e w' := by
  obtain ⟨v, rfl, h1, h2⟩ := h
  obtain ⟨A, C, rfl⟩ := h1.len
  exact ⟨A, C, rfl, h1, h2⟩
/-- A node of one's own with these. -/
def CopyP (w : World) (ps : List Kv) (cs : List Nat) (e : Ending) (w' : World) : Prop := ∃ nb vp vc, e = .returned (.pointer (some ⟨nb, 0, none⟩)) ∧ OwnN w w' nb vp vc ps cs ∧ Ch (fun _ => False) w w'
set_option maxHeartbeats 1600000 in
theorem ncopied_any {F : Nat → Prop} {w : World} {b : Nat} {ps : List Kv} {cs : List Nat} (h : NdAt F w b ps cs) : Calls Try.prog 36 #[.pointer (some ⟨b, 0, none⟩)] w (CopyP w ps cs) := by
  obtain ⟨_, A, C, A2, C2, hb, h1, h2⟩ := h
  have c0 : w.cell? ⟨b, 0, none⟩ = some (.slice A ps.length C) := by rw [blk_cell hb]; rfl
  have c1 : w.cell? ⟨b, 1, none⟩ = some (.slice A2 cs.length C2) := by rw [blk_cell hb]; rfl
  obtain ⟨n, hn⟩ : ∃ n, n = ps.length := ⟨_, rfl⟩
  obtain ⟨m, hm⟩ : ∃ m, m = cs.length := ⟨_, rfl⟩
  have HP : Hid (∀ w', Ch (fun _ => False) w w' → Calls Try.prog 43 #[.slice A n C] w' (RowS kdPr w' n ps)) := Lib.hid fun w' k => by rw [hn]; exact (clonePr_any A C ps w' (h1.v.gr k)).mono fun e w2 q => q.form
  have HN : Hid (∀ w', Ch (fun _ => False) w w' → Calls Try.prog 44 #[.slice A2 m C2] w' (RowS kdNd w' m cs)) := Lib.hid fun w' k => by rw [hm]; exact (cloneNd_any A2 C2 cs w' (h2.v.gr k)).mono fun e w2 q => q.form
  rw [← hn] at c0
  rw [← hm] at c1
  clear h1 h2 hb hn hm
  go_enter Try.func36, Try.ntmps36
  go_wp2_with fail
  have hcd := (Ch.refl (fun _ => False) w).drew
  go_region_held3 (fun w' => w'.cell? ⟨b, 0, none⟩ = some (.slice A n C) ∧ w'.cell? ⟨b, 1, none⟩ = some (.slice A2 m C2)) (first | go_keep | exact ka | exact kb)
    (first
      | (go_at_call 43; refine (HP.out _ hcd).mono ?_; rintro e w2 ⟨Ap, Cp, rfl, hp2, hc2⟩; have hcA := hcd.trans hc2; have ka := And.intro (hcA.cell c0 (fun f => f)) (hcA.cell c1 (fun f => f)))
      | (go_at_call 44; refine (HN.out _ hcA).mono ?_; rintro e w3 ⟨An, Cn, rfl, hp3, hc3⟩; have hcB := hcA.trans hc3; have kb := And.intro (hcB.cell c0 (fun f => f)) (hcB.cell c1 (fun f => f))))
  have HF : Hid (CopyP w ps cs (.returned (.pointer (some ⟨w3.heap.size, 0, none⟩))) (w3.alloc (.cells #[.slice Ap n Cp, .slice An m Cn] 60))) := Lib.hid (by
    have k := (Ch.refl (fun _ => False) w3).alloc #[.slice Ap n Cp, .slice An m Cn] 60
    exact ⟨_, _, _, rfl, ⟨hcB.size, heap_alloc_new w3 _, ((hp2.low hcd.size).gr hc3).gr k, (hp3.low hcA.size).gr k⟩, hcB.trans k⟩)
  clear hp2 hp3 hc2 hc3 hcA hcB ka kb hcd
  go_wp2
  go_ret
  exact HF.out
#print axioms ncopied_any
end Go.Proofs.Ytkpgaejmhddkdaa
