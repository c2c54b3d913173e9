/-
  batch: what the laws ask of the program's calls; the law's awake, walked. batch: BatchApplies and BatchDumps, walked, of any program whose calls keep BatK.
-/
import Derived.Test.YtkpahhioiefcbaaMb28
import Derived.Test.YtkpahhioiefcbaaMb14
namespace Go.Proofs.Ytkpahhioiefcbaa
open Go.RowKit
set_option linter.unusedVariables false
set_option maxRecDepth 100000
set_option linter.unusedSimpArgs false

/-! ### what the calls answer -/
/-- Changes as bytes. -/
def EncP (w : World) (L : List ChV) (e : Ending) (w' : World) : Prop := ∃ v E, e = .returned (.tuple #[v, .int .i64 E]) ∧ (∃ n z, RowV w' v n z ∧ n ≤ 1048576) ∧ Ch (fun _ => False) w w' ∧ (okB L → E = 0 ∧ RowV w' v (encB L).length (Cod.litZ (encB L))) ∧ (¬ okB L → ¬ E = 0)
/-- A tree out of bytes. -/
def FillPost (n : Nat) (z : Nat → Nat) (w : World) (e : Ending) (w' : World) : Prop := ∃ o E, e = .returned (.tuple #[ptrV o, .int .i64 E]) ∧ Ch (fun _ => False) w w' ∧ (¬ decE n z = 0 → E = (decE n z : Int) ∧ o = none) ∧ (decE n z = 0 → ¬ fillP (decX n z) → E = 7 ∧ o = none) ∧ (decE n z = 0 → fillP (decX n z) → E = 0 ∧ ∃ t h, o = some t ∧ w.heap.size ≤ t ∧ TreeIs w' t h ((decX n z).map prC))
def AppPost (t : Nat) (T : List Kv) (l : List ChV) (w : World) (e : Ending) (w' : World) : Prop := ∃ h', e = .returned (.tuple #[]) ∧ TreeIs w' t h' (appP T l) ∧ Ch (fun i => i = t) w w'
structure BatK : Prop where
  enc : ∀ (A : Option Addr) (C : Nat) (L : List ChV) (w : World), FlV kdCh w A C L → L.length ≤ 10000 → (∀ x ∈ L, x.1.size ≤ 10000 ∧ x.2.1.size ≤ 10000) → (encL L).length ≤ 900000 → Calls Try.prog 17 #[.slice A L.length C] w (EncP w L)
  dec : ∀ (A : Option Addr) (n C : Nat) (z : Nat → Nat) (w : World), RowV w (.slice A n C) n z → n ≤ 1048576 → Calls Try.prog 8 #[.slice A n C] w (RDecP n z w)
  app : ∀ (A : Option Addr) (C : Nat) (l : List ChV) (t h : Nat) (T : List Kv) (w : World), TreeIs w t h T → FlV kdCh w A C l → (∀ b o, A = some ⟨b, o, none⟩ → 0 < l.length → b ≠ t) → l.length ≤ 10000 → T.length ≤ 10000 → Calls Try.prog 15 #[.pointer (some ⟨t, 0, none⟩), .slice A l.length C] w (AppPost t T l w)
  app0 : ∀ (A : Option Addr) (C : Nat) (l : List ChV) (w : World), FlV kdCh w A C l → l.length ≤ 10000 → Calls Try.prog 15 #[.pointer none, .slice A l.length C] w (Tid (.tuple #[]) w)
  dump : ∀ (t h : Nat) (T : List Kv) (w : World), TreeIs w t h T → T.length ≤ 10000 → (∀ x ∈ T, x.1.size ≤ 10000 ∧ x.2.size ≤ 10000) → (encL (T.map chK)).length ≤ 900000 → Calls Try.prog 19 #[.pointer (some ⟨t, 0, none⟩)] w (EncP w (T.map chK))
  fill : ∀ (A : Option Addr) (n C : Nat) (z : Nat → Nat) (w : World), RowV w (.slice A n C) n z → n ≤ 1048576 → Calls Try.prog 11 #[.slice A n C] w (FillPost n z w)
/-! ### two in a row -/
theorem fla_fill2 (cs ds old : Array Value) (n : Nat) (h : cs.size = n) (h1 : ds.size = n) (h2 : old.size = 2 * n) (hp : 0 < n) : Instr.fill (fun i => some (i * n, n)) old [(0, .agg cs), (1, .agg ds)] = some (cs ++ ds) := by
  have := Great.fill_whole hp [.agg cs, .agg ds] old (fun v hv => by
    rcases List.mem_cons.1 hv with rfl | hv
    · exact h
    · rw [List.mem_singleton.1 hv]; exact h1) (by simp; omega)
  rw [show cs ++ ds = (cs.toList ++ ds.toList).toArray by simp]
  simpa [Value.cells] using this
theorem fl_slice2 {α : Type} {K : Kf α} (hK : K.Ok) (w : World) (x y : α) : (Instr.buildSlice K.S 2 #[(0, .agg (K.f x).toArray), (1, .agg (K.f y).toArray)]).run Try.prog w = .ok (.slice (some ⟨w.heap.size, 0, none⟩) 2 2) (w.alloc (.cells (K.f x ++ K.f y).toArray K.T)) := by
  obtain ⟨i0, hi, hz0, hz1, hz2⟩ := info_parts hK.inf
  have hl := hK.len x
  have hl2 := hK.len y
  have h0 := hK.k0
  refine run_buildSlice (P := Try.prog) w _ _ 2 _ _ i0 _ hK.un hi hz0 (by rw [hz1]; have := hK.kb; omega) (by rw [hz1]; omega) ?_
  rw [hz1, show (K.f x ++ K.f y).toArray = (K.f x).toArray ++ (K.f y).toArray by simp]
  exact fla_fill2 _ _ _ K.k (by simp [hl]) (by simp [hl2]) (by simp [hK.zk]) h0
theorem wpList_sliceF2 {P : Program} {ops : Array Oper} {rest : List Oper} {o : Oper} {a : Act} {Q : Exit → Act → World → Prop} (w w' : World) (hgd : o.guard = none) (t : TypeId) (n : Nat) (x y : Operand) (ho : o.op = .buildSlice t n #[(0, x), (1, y)]) (u u2 v : Value) (hx : a.eval x = u) (hy : a.eval y = u2) (hr : (Instr.buildSlice t n #[(0, u), (1, u2)]).run P w = .ok v w')
    (h : wpList P ops Q rest (a.put o.dst v) w') : wpList P ops Q (o :: rest) a w := by
  refine wpList_plain hgd fun K hK => ?_
  unfold Oper.wp execOp
  simp only [ho, hx, hy, Sem.run_bind, Sem.run_pure, Result.andThen_ok, hr, List.map_toArray, List.map_cons, List.map_nil]
  exact hK _ _ h
/-! ### the chapter's example -/
def xA : ChV := (⟨#[97]⟩, ⟨#[98]⟩, false)
def xC : ChV := (⟨#[99]⟩, ⟨#[]⟩, true)
theorem by_one (c : UInt8) : byS ⟨#[c]⟩ = [1, c.toNat] := by
  unfold byS byL
  show Cod.digs 1 ++ rowL 1 _ = _
  rw [Cod.digs_small (by omega)]
  rfl
theorem enc_ex : encB [xA, xC] = [2, 1, 97, 1, 1, 98, 1, 99, 0] := by
  show Cod.digs 2 ++ ((byS ⟨#[97]⟩ ++ (1 :: byS ⟨#[98]⟩)) ++ ((byS ⟨#[99]⟩ ++ [0]) ++ [])) = _
  rw [Cod.digs_small (by omega), by_one, by_one, by_one]
  rfl
theorem ok_ex : okB [xA, xC] := ⟨by decide, fun x hx => by
  rcases List.mem_cons.1 hx with rfl | hx
  · exact ⟨by decide, fun _ => by decide⟩
  · rw [List.mem_singleton.1 hx]; exact ⟨by decide, fun q => by cases q⟩⟩
theorem app_ex : appP [] [xA, xC] = [(⟨#[97]⟩, ⟨#[98]⟩)] := by decide +kernel
theorem okB_ch {T : List Kv} (h : T.length ≤ 4096) (k : ∀ x ∈ T, x.1.size ≤ 4096 ∧ x.2.size ≤ 4096) : okB (T.map chK) := ⟨by rw [List.length_map]; exact h, fun x hx => by
  obtain ⟨p, hp, rfl⟩ := List.mem_map.1 hx
  exact ⟨(k p hp).1, fun _ => (k p hp).2⟩⟩
theorem nor_ch (T : List Kv) : (T.map chK).map norC = T.map chK := by
  rw [List.map_map]
  rfl
theorem fill_of {T : List Kv} (h : Rise T) : fillP (T.map chK) := ⟨fun x hx => by
  obtain ⟨p, _, rfl⟩ := List.mem_map.1 hx
  rfl, by rw [pr_ch]; exact h⟩
#print axioms fill_of
set_option maxHeartbeats 3200000 in
theorem awake_any (K : BatK) (w : World) : Calls Try.prog 7 #[] w (Tid (.bool true) w) := by
  have HK := Lib.hid K
  have row2 : ∀ W : World, FlV kdCh (W.alloc (.cells (kdCh.f xA ++ kdCh.f xC).toArray 44)) (some ⟨W.heap.size, 0, none⟩) 2 [xA, xC] := fun W => flv_blk (R := []) kdCh_ok (by
    have := heap_alloc_new W (.cells (kdCh.f xA ++ kdCh.f xC).toArray 44)
    rw [this]
    rfl) (by simp) (by simp)
  have e0 : (encL [xA, xC]).length ≤ 900000 := by
    have h := congrArg List.length enc_ex
    unfold encB at h
    rw [List.length_append] at h
    simp only [List.length_cons, List.length_nil] at h
    omega
  have HENC := Lib.hid (fun W => K.enc _ _ _ _ (row2 W) (by simp) (fun x hx => by
    rcases List.mem_cons.1 hx with rfl | hx
    · exact ⟨by decide, by decide⟩
    · rw [List.mem_singleton.1 hx]; exact ⟨by decide, by decide⟩) e0)
  have HSL := Lib.hid (fun W => fl_slice2 kdCh_ok W xA xC)
  have HROW := Lib.hid row2
  clear row2 e0 K
  go_enter Try.func7, Try.ntmps7
  go_wp2_with (first
    | ((with_reducible refine wpList_isOp (.buildSlice 24 2 #[(0, .tmp 10), (1, .tmp 11)]) rfl ?_); refine wpList_sliceF2 _ _ rfl 24 2 (.tmp 10) (.tmp 11) rfl (.agg (kdCh.f xA).toArray) (.agg (kdCh.f xC).toArray) _ rfl rfl (by exact HSL.out _) ?_)
    | fail)
  refine (HENC.out w).mono ?_
  rintro e w2 ⟨v, E, rfl, _, hc2, hy, _⟩
  obtain ⟨rfl, hrow⟩ := hy ok_ex
  have hk1 : Ch (fun _ => False) w w2 := ((Ch.refl _ w).alloc _ _).trans hc2
  rw [enc_ex] at hrow
  have hl9 : ([2, 1, 97, 1, 1, 98, 1, 99, 0] : List Nat).length = 9 := rfl
  rw [hl9] at hrow
  obtain ⟨A2, C2, rfl, _⟩ := id hrow
  have hlit := lit_row w2 [2, 1, 97, 1, 1, 98, 1, 99, 0] 9 (0, 0) rfl (by decide) (by omega)
  have hc3 : Ch (fun _ => False) w2 (w2.alloc (.cells (litV [2, 1, 97, 1, 1, 98, 1, 99, 0]) /-t-/5)) := (Ch.refl _ w2).alloc _ _
  have hsm := same_any _ _ _ _ _ _ _ _ _ (hrow.gr hc3) hlit
  have heq : eqB 9 9 (Cod.litZ [2, 1, 97, 1, 1, 98, 1, 99, 0]) (litZ [2, 1, 97, 1, 1, 98, 1, 99, 0]) = true := decide_eq_true ⟨rfl, fun _ _ => rfl⟩
  rw [heq] at hsm
  have HSM := Lib.hid hsm
  have HC3 := Lib.hid (hk1.trans hc3)
  clear hc2 hy hrow hlit hsm heq hk1 hc3 hl9 HENC
  go_wp2_with fail
  refine HSM.out.mono ?_
  rintro e w4 ⟨rfl, d, hd⟩
  have hc4 := HC3.out.trans (show Ch (fun _ => False) _ w4 by rw [hd]; exact (Ch.refl _ _).drewN d)
  obtain ⟨w5, hw5⟩ : ∃ w5, w5 = w4.alloc (.cells #[.pointer none, .int .i64 0] 38) := ⟨_, rfl⟩
  obtain ⟨t, ht⟩ : ∃ t, t = w4.heap.size := ⟨_, rfl⟩
  have hc5 : Ch (fun _ => False) w4 w5 := by rw [hw5]; exact (Ch.refl _ w4).alloc _ _
  have hb : w5.heap[t]? = some (.cells #[.pointer none, .int .i64 0] 38 (0, 0)) := by rw [hw5, ht]; exact heap_alloc_new _ _
  have hc6 : Ch (fun _ => False) w5 (w5.alloc (.cells (kdCh.f xA ++ kdCh.f xC).toArray 44)) := (Ch.refl _ w5).alloc _ _
  have hap := HK.out.app _ _ _ t 0 [] _ ((TreeIs.new w5 t hb).gr hc6) (HROW.out w5) (fun b o e _ => by
    injection e with e
    injection e with e _ _
    rw [← e]
    exact (Nat.ne_of_lt (blk_lt hb)).symm) (by simp) (by simp)
  have HAP := Lib.hid hap
  have HW5 := Lib.hid (And.intro hw5 ht)
  have HC6 := Lib.hid (hc4.trans (hc5.trans hc6))
  have HT := Lib.hid (show w.heap.size ≤ t by rw [ht]; exact hc4.size)
  clear hap hw5 ht hc4 hc5 hc6 hb hd HSM HC3
  go_upto_region 4 with fail
  rw [← HW5.out.2, ← HW5.out.1]
  go_wp2_with (first
    | ((with_reducible refine wpList_isOp (.buildSlice 24 2 #[(0, .tmp 22), (1, .tmp 23)]) rfl ?_); refine wpList_sliceF2 _ _ rfl 24 2 (.tmp 22) (.tmp 23) rfl (.agg (kdCh.f xA).toArray) (.agg (kdCh.f xC).toArray) _ rfl rfl (by exact HSL.out _) ?_)
    | fail)
  refine HAP.out.mono ?_
  rintro e w7 ⟨h7, rfl, T7, c7⟩
  rw [app_ex] at T7
  have hRi : Rise [((⟨#[97]⟩ : ByteArray), (⟨#[98]⟩ : ByteArray))] := T7.rise
  have hsz : ∀ x ∈ ([((⟨#[97]⟩ : ByteArray), (⟨#[98]⟩ : ByteArray))] : List Kv), x.1.size ≤ 4096 ∧ x.2.size ≤ 4096 := fun x hx => by
    rw [List.mem_singleton.1 hx]; exact ⟨by decide, by decide⟩
  obtain ⟨T, hT⟩ : ∃ T : List Kv, T = [((⟨#[97]⟩ : ByteArray), (⟨#[98]⟩ : ByteArray))] := ⟨_, rfl⟩
  rw [← hT] at T7 hRi hsz
  have hlT : T.length = 1 := by rw [hT]; rfl
  have hok := okB_ch (T := T) (by omega) hsz
  have hle := encL_len hok.2
  rw [List.length_map, hlT] at hle
  have HC7 := Lib.hid (HC6.out.new (c7.mono fun i _ e => by rw [e]; exact HT.out))
  have HDU := Lib.hid (HK.out.dump t h7 T w7 T7 (by omega) (fun x hx => by have := hsz x hx; omega) (by omega))
  have HOK := Lib.hid (And.intro hok (And.intro hRi (And.intro hlT hle)))
  clear T7 c7 hRi hsz hT hlT hok hle HAP
  go_wp2_with fail
  refine HDU.out.mono ?_
  rintro e w8 ⟨v8, E8, rfl, _, hc8, hy8, _⟩
  obtain ⟨rfl, hrow8⟩ := hy8 HOK.out.1
  obtain ⟨A8, C8, rfl, _⟩ := id hrow8
  have hd := dec_enc HOK.out.1
  have hln : (encB (T.map chK)).length ≤ 1048576 := by
    unfold encB
    rw [List.length_append]
    have h1 := Cod.digs_len10 (n := (T.map chK).length) (by have := HOK.out.1.1; omega)
    have := HOK.out.2.2.2
    omega
  have HFI := Lib.hid (HK.out.fill A8 _ C8 _ w8 hrow8 hln)
  have HD := Lib.hid hd
  have HC8 := Lib.hid (HC7.out.trans hc8)
  obtain ⟨N, hN⟩ : ∃ N, N = (encB (T.map chK)).length := ⟨_, rfl⟩
  rw [← hN] at HFI HD ⊢
  clear hc8 hy8 hrow8 hd hln HDU hN
  go_wp2_with fail
  refine HFI.out.mono ?_
  rintro e w9 ⟨o, E9, rfl, hc9, _, _, hy9⟩
  obtain ⟨rfl, t2, h2, rfl, _, T9⟩ := hy9 HD.out.1 (by rw [HD.out.2, nor_ch]; exact fill_of HOK.out.2.1)
  rw [HD.out.2, nor_ch, pr_ch] at T9
  have hlen := tlen_any T9
  rw [HOK.out.2.2.1] at hlen
  have HLEN := Lib.hid hlen
  have HFIN := Lib.hid (HC8.out.trans hc9)
  have hp : ptrV (some t2) = .pointer (some ⟨t2, 0, none⟩) := rfl
  rw [hp]
  clear hc9 hy9 T9 hlen hp HFI
  go_wp2_with fail
  refine HLEN.out.mono ?_
  rintro e w10 ⟨rfl, rfl⟩
  go_wp2_with fail
  go_ret
  exact ⟨rfl, HFIN.out⟩
#print axioms awake_any
end Go.Proofs.Ytkpahhioiefcbaa
namespace Go.Proofs.Ytkpahhioiefcbaa
open Go.RowKit
set_option linter.unusedVariables false
set_option maxRecDepth 100000
set_option linter.unusedSimpArgs false

theorem FlV.some' {α : Type} {K : Kf α} {w : World} {A : Option Addr} {C : Nat} {L : List α} (h : FlV K w A C L) (h0 : 0 < L.length) : ∃ b o, A = some ⟨b, o, none⟩ := by
  obtain ⟨b, o, hA, _⟩ := h.at' h0
  exact ⟨b, o, hA⟩
theorem FlV.low' {α : Type} {K : Kf α} (hK : K.Ok) {w : World} {b o C : Nat} {L : List α} (h : FlV K w (some ⟨b, o, none⟩) C L) (h0 : 0 < L.length) : b < w.heap.size := by
  obtain ⟨b', o', hA, hc⟩ := h.at' h0
  injection hA with hA
  injection hA with e1 e2
  subst e1 e2
  have hk : 0 < (K.f L[0]).length := by rw [hK.len]; exact hK.k0
  exact World.block_lt_of_cell? _ _ (hc 0 L[0] (List.getElem?_eq_getElem h0) 0 _ (List.getElem?_eq_getElem hk))
/-- A row that was there stays, whatever turns of what is newer. -/
theorem FlV.keep {α : Type} {K : Kf α} (hK : K.Ok) {S : Nat → Prop} {w0 w w' : World} {A : Option Addr} {C : Nat} {L : List α} (h0 : FlV K w0 A C L) (h : FlV K w A C L) (k : Ch S w w') (hS : ∀ i, S i → w0.heap.size ≤ i) : FlV K w' A C L := by
  refine ⟨h.le, h.cap, fun hl => ?_⟩
  obtain ⟨b, o, rfl⟩ := h0.some' hl
  exact (h.ch k fun b' o' e x => by
    injection e with e
    injection e with e _ _
    have h1 := h0.low' hK hl
    have h2 := hS b' x
    omega).at' hl
theorem FlV.apart {w0 : World} {A : Option Addr} {C t : Nat} {L : List ChV} (h0 : FlV kdCh w0 A C L) (ht : w0.heap.size ≤ t) : ∀ b o, A = some ⟨b, o, none⟩ → 0 < L.length → b ≠ t := fun b o e hl => by
  subst e
  have := h0.low' kdCh_ok hl
  omega
theorem one_mem {L : List Kv} {x : ChV} {p : Kv} (h : p ∈ oneP L x) : p ∈ L ∨ (x.2.2 = false ∧ p = prC x) := by
  unfold oneP at h
  split at h
  · exact Or.inl (List.mem_filter.1 h).1
  · rename_i hg
    unfold putL13 at h
    rcases List.mem_append.1 h with q | q
    · exact Or.inl (List.mem_filter.1 q).1
    · rcases List.mem_cons.1 q with q | q
      · exact Or.inr ⟨by simpa using hg, q⟩
      · exact Or.inl (List.mem_filter.1 q).1
theorem app_mem : ∀ {l : List ChV} {L : List Kv} {p : Kv}, p ∈ appP L l → p ∈ L ∨ ∃ x ∈ l, p = prC x
  | [], _, _, h => Or.inl h
  | x :: l, L, p, h => by
    rcases app_mem (l := l) (L := oneP L x) h with q | ⟨y, hy, e⟩
    · rcases one_mem q with q | ⟨_, e⟩
      · exact Or.inl q
      · exact Or.inr ⟨x, List.mem_cons_self .., e⟩
    · exact Or.inr ⟨y, List.mem_cons_of_mem _ hy, e⟩
theorem app_size {l : List ChV} {B : Nat} (h : ∀ x ∈ l, x.1.size ≤ B ∧ x.2.1.size ≤ B) : ∀ p ∈ appP [] l, p.1.size ≤ B ∧ p.2.size ≤ B := fun p hp => by
  rcases app_mem hp with q | ⟨x, hx, rfl⟩
  · cases q
  · exact h x hx
set_option maxHeartbeats 6400000 in
theorem batchApplies_of (K : BatK) (A A2 : Option Addr) (C C2 : Nat) (l m : List ChV) (w : World) (h1 : FlW kdCh w A C l) (h2 : FlW kdCh w A2 C2 m) : Calls Try.prog 4 #[.slice A l.length C, .slice A2 m.length C2] w (Told w) := by
  have HK := Lib.hid K
  have HW1 := Lib.hid h1
  have HW2 := Lib.hid h2
  have HUP := Lib.hid (awake_any K w)
  obtain ⟨n1, hn1⟩ : ∃ n, n = l.length := ⟨_, rfl⟩
  obtain ⟨n2, hn2⟩ : ∃ n, n = m.length := ⟨_, rfl⟩
  obtain ⟨f1, hf1⟩ : ∃ f, f = lightB l 60 300 := ⟨_, rfl⟩
  obtain ⟨f2, hf2⟩ : ∃ f, f = lightB m 60 300 := ⟨_, rfl⟩
  rw [← hn1, ← hn2]
  have HN1 := Lib.hid hn1
  have HN2 := Lib.hid hn2
  have HF1 := Lib.hid hf1
  have HF2 := Lib.hid hf2
  clear h1 h2 K hn1 hn2 hf1 hf2
  go_enter Try.func4, Try.ntmps4
  go_wp2_with fail
  refine HUP.out.mono ?_
  rintro e w1 ⟨rfl, hc1⟩
  have hfw := light_any A C l 60 300 (by omega) (by omega) w1 (HW1.out.gr hc1)
  rw [← HN1.out, ← HF1.out] at hfw
  have HFW := Lib.hid hfw
  have HC1 := Lib.hid hc1
  clear hc1 hfw HUP
  go_wp2_with fail
  refine HFW.out.mono ?_
  rintro e w2 ⟨rfl, hc2⟩
  have hc12 := HC1.out.trans hc2
  have hfw := light_any A2 C2 m 60 300 (by omega) (by omega) w2 (HW2.out.gr hc12)
  rw [← HN2.out, ← HF2.out] at hfw
  have HFW2 := Lib.hid hfw
  have HC2 := Lib.hid hc12
  clear hc2 hfw HFW HC1 hc12
  go_wp2_with fail
  refine HFW2.out.mono ?_
  rintro e w3 ⟨rfl, hc3⟩
  have HC3 := Lib.hid (HC2.out.trans hc3)
  clear hc3 HFW2 HC2
  by_cases hok : f1 = true ∧ f2 = true
  case neg =>
    have hno : f1 = false ∨ (f1 = true ∧ f2 = false) := by
      cases f1
      · exact Or.inl rfl
      · cases f2
        · exact Or.inr ⟨rfl, rfl⟩
        · exact absurd ⟨rfl, rfl⟩ hok
    clear hok
    rcases hno with rfl | ⟨rfl, rfl⟩
    · go_wp2_with fail
      go_ret
      exact ⟨rfl, HC3.out⟩
    · go_wp2_with fail
      go_ret
      exact ⟨rfl, HC3.out⟩
  case pos =>
    obtain ⟨rfl, rfl⟩ := hok
    obtain ⟨l1, l2⟩ := light_is HF1.out.symm
    obtain ⟨m1, m2⟩ := light_is HF2.out.symm
    have hv1 := HW1.out.fl (by omega)
    have hv2 := HW2.out.fl (by omega)
    obtain ⟨w4, hw4⟩ : ∃ w4, w4 = w3.alloc (.cells #[.pointer none, .int .i64 0] 38) := ⟨_, rfl⟩
    obtain ⟨t, ht⟩ : ∃ t, t = w3.heap.size := ⟨_, rfl⟩
    have hc4 : Ch (fun _ => False) w3 w4 := by rw [hw4]; exact (Ch.refl _ w3).alloc _ _
    have hb : w4.heap[t]? = some (.cells #[.pointer none, .int .i64 0] 38 (0, 0)) := by rw [hw4, ht]; exact heap_alloc_new _ _
    have hwt : w.heap.size ≤ t := by rw [ht]; exact HC3.out.size
    have hc04 := HC3.out.trans hc4
    have hap := HK.out.app A C l t 0 [] w4 (TreeIs.new w4 t hb) (hv1.gr hc04) (hv1.apart hwt) (by omega) (by simp)
    rw [← HN1.out] at hap
    have HAP := Lib.hid hap
    have HV1 := Lib.hid hv1
    have HV2 := Lib.hid hv2
    have HC4 := Lib.hid hc04
    have HT := Lib.hid hwt
    have HL := Lib.hid (And.intro l1 m1)
    clear l1 l2 m1 m2 hv1 hv2 hc4 hb hwt hc04 hap
    go_upto_region 7 with fail
    rw [← ht, ← hw4]
    clear ht hw4
    go_wp2_with fail
    refine HAP.out.mono ?_
    rintro e w5 ⟨h5, rfl, T5, c5⟩
    have k5 := HV1.out.keep kdCh_ok (HV1.out.gr HC4.out) c5 (fun i e => by rw [e]; exact HT.out)
    have j5 := HV2.out.keep kdCh_ok (HV2.out.gr HC4.out) c5 (fun i e => by rw [e]; exact HT.out)
    have hl5 := app_le (L := []) rise_nil l
    have hap := HK.out.app A2 C2 m t h5 (appP [] l) w5 T5 j5 (HV2.out.apart HT.out) (by have := HL.out; omega) (by have := HL.out; simp only [List.length_nil] at hl5; omega)
    rw [← HN2.out] at hap
    have HAP2 := Lib.hid hap
    have HV5 := Lib.hid (And.intro k5 j5)
    have HC5 := Lib.hid (HC4.out.new (c5.mono fun i _ e => by rw [e]; exact HT.out))
    clear T5 c5 k5 j5 hl5 hap HAP
    go_wp2_with fail
    refine HAP2.out.mono ?_
    rintro e w6 ⟨h6, rfl, T6, c6⟩
    have k6 := HV1.out.keep kdCh_ok HV5.out.1 c6 (fun i e => by rw [e]; exact HT.out)
    have j6 := HV2.out.keep kdCh_ok HV5.out.2 c6 (fun i e => by rw [e]; exact HT.out)
    have hr := rapply_any none A 0 C [] l rise_nil w6 (flV_none _ _ _) k6 (by have := HL.out; simp only [List.length_nil]; omega)
    rw [← HN1.out] at hr
    have HR := Lib.hid hr
    have HC6 := Lib.hid (HC5.out.new (c6.mono fun i _ e => by rw [e]; exact HT.out))
    have HV6 := Lib.hid (And.intro k6 j6)
    have HT6 := Lib.hid T6
    clear T6 c6 k6 j6 hr HAP2 HV5 HC5
    go_wp2_with fail
    refine HR.out.mono ?_
    rintro e w7 ⟨A7, C7, rfl, hv7, hc7⟩
    have hl5 := app_le (L := []) rise_nil l
    have hr := rapply_any A7 A2 C7 C2 (appP [] l) m (rise_appP rise_nil l) w7 hv7 (HV6.out.2.gr hc7) (by have := HL.out; simp only [List.length_nil] at hl5; omega)
    rw [← HN2.out] at hr
    have HR2 := Lib.hid hr
    have HC7 := Lib.hid hc7
    clear hl5 hr hv7 hc7 HR
    go_wp2_with fail
    refine HR2.out.mono ?_
    rintro e w8 ⟨A8, C8, rfl, hv8, hc8⟩
    have hc68 := HC7.out.trans hc8
    have hn := HK.out.app0 A C l w8 (HV6.out.1.gr hc68) (by have := HL.out; omega)
    rw [← HN1.out] at hn
    have HNN := Lib.hid hn
    have HV8 := Lib.hid hv8
    have HC8 := Lib.hid hc68
    clear hv8 hc8 hc68 hn HR2 HC7
    go_wp2_with fail
    refine HNN.out.mono ?_
    rintro e w9 ⟨rfl, hc9⟩
    have hall := all_any' (some t) h6 (appP (appP [] l) m) w9 (TreeIs.gr HT6.out (HC8.out.trans hc9))
    have HALL := Lib.hid hall
    have HC9 := Lib.hid hc9
    clear hc9 hall HNN
    go_wp2_with fail
    refine HALL.out.mono ?_
    rintro e w10 ⟨v, rfl, ho, hc10⟩
    obtain ⟨A10, C10, rfl⟩ := ho.len
    have hle : (appP (appP [] l) m).length ≤ 1000 := by
      have h5 := app_le (L := []) rise_nil l
      have h6 := app_le (rise_appP rise_nil l) m
      have := HL.out
      simp only [List.length_nil] at h5
      omega
    have hs := rsame_any A10 A8 C10 C8 ((appP (appP [] l) m).map chK) w10 (ho.read kdCk_ok (by omega)).ck ((HV8.out.gr (HC9.out.trans hc10)).ck) (by rw [List.length_map]; omega)
    rw [List.length_map] at hs
    have HSM := Lib.hid hs
    have HC10 := Lib.hid (HC6.out.trans (HC8.out.trans (HC9.out.trans hc10)))
    obtain ⟨N, hN⟩ : ∃ N, N = (appP (appP [] l) m).length := ⟨_, rfl⟩
    rw [← hN] at HSM ⊢
    clear ho hc10 hle hs HALL hN
    go_wp2_with fail
    refine HSM.out.mono ?_
    rintro e w11 ⟨rfl, hc11⟩
    have HFIN := Lib.hid (HC10.out.trans hc11)
    clear hc11
    go_wp2_with fail
    go_ret
    exact ⟨rfl, HFIN.out⟩
#print axioms batchApplies_of
end Go.Proofs.Ytkpahhioiefcbaa
