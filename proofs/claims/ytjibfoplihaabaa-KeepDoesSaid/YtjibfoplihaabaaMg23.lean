/-
  law09.puts, walked: what is to be written where.
-/
import Derived.Test.YtjibfoplihaabaaMg22
import Derived.Test.YtjibfoplihaabaaMg5
import Derived.Test.YtjibfoplihaabaaMg9
import Derived.Test.YtjibfoplihaabaaMg11
import Derived.Test.YtjibfoplihaabaaMg2
namespace Go.Proofs.Ytjibfoplihaabaa
open Go.RowKit
set_option linter.unusedVariables false
set_option maxRecDepth 100000

/-! ### what is wanted -/
structure WantD where
  pl : Int
  b : Nat
structure WantAt (w : World) (b o : Nat) (x : WantD) : Prop where
  c0 : w.cell? ⟨b, o, none⟩ = some (.int .i64 x.pl)
  c1 : w.cell? ⟨b, o + 1, none⟩ = some (.int .u8 (x.b : Int))
  by8 : x.b < 256
  i64 : I64 x.pl
theorem WantAt.gr {w w' : World} {b o : Nat} {x : WantD} (h : WantAt w b o x) (k : Ch (fun _ => False) w w') : WantAt w' b o x := ⟨k.cell h.c0 (fun f => f), k.cell h.c1 (fun f => f), h.by8, h.i64⟩
def RowW (w : World) (A : Option Addr) (m : Nat) (g : Nat → WantD) : Prop :=
  m ≤ 9223372036854775807 ∧ (0 < m → ∃ b o, A = some ⟨b, o, none⟩ ∧ ∀ c, c < m → WantAt w b (o + c * 2) (g c))
theorem RowW.gr {w w' : World} {A : Option Addr} {m : Nat} {g : Nat → WantD} (h : RowW w A m g) (k : Ch (fun _ => False) w w') : RowW w' A m g := by
  refine ⟨h.1, fun h0 => ?_⟩
  obtain ⟨b, o, hA, hc⟩ := h.2 h0
  exact ⟨b, o, hA, fun c hcm => (hc c hcm).gr k⟩
/-- The write that is made of it. -/
def wantP (x : WantD) : PutP := ⟨x.pl, if x.b % 7 = 6 then 255 else 256, fun _ => x.b⟩
theorem RowW.i64 {w : World} {A : Option Addr} {m : Nat} {g : Nat → WantD} (h : RowW w A m g) : ∀ i, i < m → I64 (wantP (g i)).pl := fun i hi => by
  obtain ⟨b, o, _, hc⟩ := h.2 (by omega)
  exact (hc i hi).i64
/-- The rows of puts: a list of one's own. -/
def PutsP (w : World) (m : Nat) (f : Nat → PutP) (e : Ending) (w' : World) : Prop := ∃ A C, e = .returned (.slice A m C) ∧ Ch (fun _ => False) w w' ∧ PutsV w' (fun i => w.heap.size ≤ i ∧ i < w'.heap.size) A m f
theorem secOwn {w wr : World} {b x : Nat} (h : wr.rowIs b /-t-/5 256 (fun i => .int .u8 (((fun _ => x) i : Nat) : Int))) (hx : x < 256) (hb : w.heap.size ≤ b) (o n : Nat) (ho : o + n = 256) (hn : 0 < n) : OwnB w wr (.slice (some ⟨b, o, none⟩) n n) n (fun _ => x) b o n := by
  obtain ⟨c, hc, hs, hf⟩ := id h
  exact ⟨rfl, ⟨_, _, rfl, by omega, fun _ => ⟨b, o, rfl, fun j hj => ⟨h.cell (i := o + j) (by omega), hx⟩⟩⟩, ⟨c, hc⟩, hb⟩
set_option maxHeartbeats 1600000 in
theorem puts_any (A : Option Addr) (m C : Nat) (g : Nat → WantD) (w : World) (h : RowW w A m g) (hm : m ≤ 1048576) :
    Calls Try.prog 10 #[.slice A m C] w (PutsP w m (fun c => wantP (g c))) := by
  have HV := Lib.hid h
  have HS : Hid (∃ s, PutsO w w (.slice none 0 0) 0 (fun c => wantP (g c)) s) := ⟨fun _ => .slice none 0 0, PutsO.start w _ _⟩
  clear h
  go_enter Try.func10, Try.ntmps10
  go_wp2
  go_loopw [3, 4, 5] (fun v i _ wr => ∃ k : Nat, k ≤ m ∧ i = .int .i64 k ∧ Hid (∃ s, PutsO w wr v k (fun c => wantP (g c)) s)) (fun _ i _ _ => m - (intOf i).toNat)
  case atStart => exact ⟨0, Nat.zero_le _, rfl, HS⟩
  case round =>
    obtain ⟨k, hk, rfl, HK⟩ := hrel
    clear HS
    obtain ⟨s, hs⟩ := HK.out
    obtain ⟨A0, C0, rfl⟩ := hs.len
    have HK := Lib.hid hs
    clear hs
    by_cases hlt : k < m
    · obtain ⟨b, o, rfl, hc⟩ := HV.out.2 (by omega)
      have hw := (hc k hlt).gr HK.out.ch
      obtain ⟨x, hx⟩ : ∃ x, x = g k := ⟨_, rfl⟩
      rw [← hx] at hw
      obtain ⟨pl, bb⟩ := x
      have c0 : wr.cell? ⟨b, o + k * 2, none⟩ = some (.int .i64 pl) := hw.c0
      have c1 : wr.cell? ⟨b, o + k * 2 + 1, none⟩ = some (.int .u8 (bb : Int)) := hw.c1
      have hb8 : bb < 256 := hw.by8
      have i1 : (0 : Int) ≤ (k : Int) := Int.natCast_nonneg _
      have i2 : (k : Int) < (m : Int) := by omega
      have HX := Lib.hid hx
      have HLT := Lib.hid hlt
      clear hc hw hx hlt
      go_wp2_with fail
      refine (sector_any bb hb8 wr).mono ?_
      rintro e1 w2 ⟨sb, rfl, h2, hb2, hc2⟩
      have d0 := hc2.cell c0 (fun f => f)
      have d1 := hc2.cell c1 (fun f => f)
      have HK2 := Lib.hid (HK.out.gr hc2)
      have hlo : w.heap.size ≤ sb := Nat.le_trans HK.out.ch.size hb2
      by_cases q : bb % 7 = 6
      · have HO := Lib.hid (secOwn h2 hb8 hlo 1 255 rfl (by decide))
        have hP : wantP (g k) = ⟨pl, 255, fun _ => bb⟩ := by rw [← HX.out]; unfold wantP; rw [if_pos q]
        obtain ⟨g2, cap, w3, hr3, hs3⟩ := HK2.out.app (u := .slice (some ⟨sb, 1, none⟩) 255 255) (by show OwnB w w2 _ (wantP (g k)).n (wantP (g k)).z _ _ _; rw [hP]; exact HO.out) (by omega)
        have t1 : (((bb : Int) % 7) == 6) = true := by simp; omega
        have HSL := Lib.hid (slice_put w2 (.int .i64 pl) (.slice (some ⟨sb, 1, none⟩) 255 255))
        obtain ⟨ws, hws⟩ : ∃ ws, ws = w2.alloc (.cells #[.int .i64 pl, .slice (some ⟨sb, 1, none⟩) 255 255] 50) := ⟨_, rfl⟩
        obtain ⟨K, hK⟩ : ∃ K, K = w2.heap.size := ⟨_, rfl⟩
        obtain ⟨N, hN⟩ : ∃ N, N = k + 1 := ⟨_, rfl⟩
        have hpl : (wantP (g k)).pl = pl := by rw [hP]
        rw [hpl, ← hws, ← hK, ← hN] at hr3
        rw [← hws, ← hK] at HSL
        rw [← hN] at hs3
        have HRUN := Lib.hid hr3
        have HS3 := Lib.hid (show ∃ s, PutsO w w3 _ N (fun c => wantP (g c)) s from ⟨_, hs3⟩)
        have HLT2 := HLT.out
        have HN := Lib.hid hN
        clear hr3 hs3 hP hpl hws hK hN h2 hb2 hc2 q hlo
        go_wp2_with (first
          | ((with_reducible refine wpList_isOp (.buildSlice 31 1 #[(0, .tmp 34)]) rfl ?_); refine wpList_slicing1 _ ws rfl 31 0 1 (.tmp 34) rfl (.agg #[.int .i64 pl, .slice (some ⟨sb, 1, none⟩) 255 255]) (.slice (some ⟨K, 0, none⟩) 1 1) rfl (by exact HSL.out) ?_)
          | ((with_reducible refine wpList_isOp (.call { callee := .builtin .append, args := #[.tmp 27, .tmp 35], argTypes := #[ 31, 31] }) rfl ?_); refine wpList_appP _ rfl (.tmp 27) (.tmp 35) rfl rfl (.slice A0 k C0) (.slice (some ⟨K, 0, none⟩) 1 1) (.slice (some ⟨g2, 0, none⟩) N cap) w3 rfl rfl (by exact HRUN.out) ?_))
        go_roundw
        case rel => exact ⟨N, by rw [HN.out]; omega, by rw [HN.out]; go_num, HS3⟩
        case measure => simp [intOf]; omega
      · have HO := Lib.hid (secOwn h2 hb8 hlo 0 256 rfl (by decide))
        have hP : wantP (g k) = ⟨pl, 256, fun _ => bb⟩ := by rw [← HX.out]; unfold wantP; rw [if_neg q]
        obtain ⟨g2, cap, w3, hr3, hs3⟩ := HK2.out.app (u := .slice (some ⟨sb, 0, none⟩) 256 256) (by show OwnB w w2 _ (wantP (g k)).n (wantP (g k)).z _ _ _; rw [hP]; exact HO.out) (by omega)
        have t1 : (((bb : Int) % 7) == 6) = false := by simp; omega
        have HSL := Lib.hid (slice_put w2 (.int .i64 pl) (.slice (some ⟨sb, 0, none⟩) 256 256))
        obtain ⟨ws, hws⟩ : ∃ ws, ws = w2.alloc (.cells #[.int .i64 pl, .slice (some ⟨sb, 0, none⟩) 256 256] 50) := ⟨_, rfl⟩
        obtain ⟨K, hK⟩ : ∃ K, K = w2.heap.size := ⟨_, rfl⟩
        obtain ⟨N, hN⟩ : ∃ N, N = k + 1 := ⟨_, rfl⟩
        have hpl : (wantP (g k)).pl = pl := by rw [hP]
        rw [hpl, ← hws, ← hK, ← hN] at hr3
        rw [← hws, ← hK] at HSL
        rw [← hN] at hs3
        have HRUN := Lib.hid hr3
        have HS3 := Lib.hid (show ∃ s, PutsO w w3 _ N (fun c => wantP (g c)) s from ⟨_, hs3⟩)
        have HLT2 := HLT.out
        have HN := Lib.hid hN
        clear hr3 hs3 hP hpl hws hK hN h2 hb2 hc2 q hlo
        go_wp2_with (first
          | ((with_reducible refine wpList_isOp (.buildSlice 31 1 #[(0, .tmp 34)]) rfl ?_); refine wpList_slicing1 _ ws rfl 31 0 1 (.tmp 34) rfl (.agg #[.int .i64 pl, .slice (some ⟨sb, 0, none⟩) 256 256]) (.slice (some ⟨K, 0, none⟩) 1 1) rfl (by exact HSL.out) ?_)
          | ((with_reducible refine wpList_isOp (.call { callee := .builtin .append, args := #[.tmp 27, .tmp 35], argTypes := #[ 31, 31] }) rfl ?_); refine wpList_appP _ rfl (.tmp 27) (.tmp 35) rfl rfl (.slice A0 k C0) (.slice (some ⟨K, 0, none⟩) 1 1) (.slice (some ⟨g2, 0, none⟩) N cap) w3 rfl rfl (by exact HRUN.out) ?_))
        go_roundw
        case rel => exact ⟨N, by rw [HN.out]; omega, by rw [HN.out]; go_num, HS3⟩
        case measure => simp [intOf]; omega
    · obtain rfl : k = m := by omega
      have HP : Hid (PutsP w k (fun c => wantP (g c)) (.returned (.slice A0 k C0)) wr) := ⟨A0, C0, rfl, HK.out.ch, HK.out.read (by omega)⟩
      clear hlt
      go_wp2
      go_ret
      exact HP.out
#print axioms puts_any
end Go.Proofs.Ytjibfoplihaabaa
