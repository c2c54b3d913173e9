/-
  CodePuts, walked.
-/
import Derived.Test.YtfnmdcfnojgofaaCodV
namespace Go.Proofs.Ytfnmdcfnojgofaa
open Go.RowKit Go.Shelf Cod
set_option linter.unusedVariables false

theorem ownsRow_off {w w' : World} {base n : Nat} {e : TypeId} {v : Value} {xs : List Value} {S : Nat → Prop} (h : w.ownsRow base e 1 v n xs) (k : Ch S w w') (hS : ∀ i, v.ownBlock = some i → ¬ S i) : w'.ownsRow base e 1 v n xs := by
  refine ⟨h.1, ?_⟩
  rcases h.2 with hn | ⟨g, cap, cur, rfl, hb, hgg, rest⟩
  · exact Or.inl hn
  · exact Or.inr ⟨g, cap, cur, rfl, hb, (k.block g (Array.getElem?_eq_some_iff.1 hgg).1 (hS g rfl)).trans hgg, rest⟩
theorem rowL_lit (D : List Nat) : rowL D.length (litZ D) = D := by
  unfold rowL
  refine List.ext_getElem (by simp) fun i h1 h2 => ?_
  simp [litZ, List.getD, h2]
theorem byL_b {l : Nat} {z : Nat → Nat} (h : Bytes l z) : ∀ x ∈ byL l z, x < 256 := fun x hx => by
  rcases List.mem_append.1 hx with hx | hx
  · exact digs_b _ x hx
  · exact rowL_b h x hx
structure PutsSt (w W : World) (Bo : Nat) (v vw : Value) (L M : List Nat) : Prop where
  out : OutIs w.heap.size W Bo v L
  want : W.ownsRow w.heap.size /-t-/5 1 vw M.length (bytesL M.length (litZ M))
  ne : ∀ i, vw.ownBlock = some i → ¬ Foot Bo v i
  ch : Ch (fun _ => False) w W
  byt : ∀ x ∈ M, x < 256
theorem PutsSt.gr {w W W' : World} {Bo : Nat} {v vw : Value} {L M : List Nat} (h : PutsSt w W Bo v vw L M) (k : Ch (fun _ => False) W W') : PutsSt w W' Bo v vw L M := ⟨h.out.ch k (fun _ _ f => f), ownsRow_ch h.want k, h.ne, h.ch.trans k, h.byt⟩
theorem PutsSt.put {w W W' : World} {Bo : Nat} {v vw r : Value} {L L' M : List Nat} {e : Ending} (h : PutsSt w W Bo v vw L M) (hp : PutPost w.heap.size Bo v L' r W e W') : e = .returned r ∧ ∃ v', PutsSt w W' Bo v' vw L' M := by
  obtain ⟨h1, v', h2, h3, h4⟩ := hp
  refine ⟨h1, v', h2, ownsRow_off h.want h4 h.ne, fun i e hf => ?_, h.ch.new (h4.mono fun i _ hi => h.out.foot hi), h.byt⟩
  rcases hf with rfl | hf
  · exact h.ne _ e (Or.inl rfl)
  · rcases h3 with q | q
    · exact h.ne _ e (Or.inr (q ▸ hf))
    · have := (World.ownsRow.lt h.want i e).2
      have := q i hf
      omega
theorem PutsSt.app {w W : World} {Bo l : Nat} {v vw x : Value} {L M : List Nat} {z : Nat → Nat} (h : PutsSt w W Bo v vw L M) (hr : RowV W x l z) (hl : M.length + l ≤ 1048576) :
    ∃ vw' W', (Builtin.append_ #[ /-t-/26, /-t-/26] /-t-/26 #[vw, x]).run Try.prog W = .ok vw' W' ∧ PutsSt w W' Bo v vw' L (M ++ rowL l z) := by
  obtain ⟨v2, W2, hr2, ho2, hg2, hv2⟩ := app_row h.want h.ch.size hr hl
  rw [app_lit] at ho2
  have e : (M ++ rowL l z).length = M.length + l := by rw [List.length_append, rowL_len]
  rw [← e] at ho2
  refine ⟨v2, W2, hr2, h.out.ch ((Ch.refl (fun i => vw.ownBlock = some i) W).grown hg2 (fun i e => Or.inl e)) (fun i hf e => h.ne i e hf), ho2, fun i e hf => ?_, h.ch.grown hg2 (fun i e => Or.inr (World.ownsRow.lt h.want i e).1), fun y hy => ?_⟩
  · rcases hv2 with q | q
    · exact h.ne i (q ▸ e) hf
    · rw [q] at e
      injection e with e
      exact h.out.fresh (Nat.le_of_eq e) hf
  · rcases List.mem_append.1 hy with hy | hy
    · exact h.byt y hy
    · exact rowL_b hr.bytes y hy
set_option maxHeartbeats 4000000 in
set_option maxRecDepth 100000 in
theorem codePuts_of (vl : Value) (w : World) {m : Nat} {F : Nat → PutD} (hq : RowP w vl m F) : Calls Try.prog 3 #[vl] w (Told w) := by
  obtain ⟨A, C, rfl, hm, _⟩ := id hq
  have hm1 := hm.1
  have HQ := Lib.hid hq
  clear hq hm
  by_cases hf : fewB m F = true
  case neg =>
    have hf2 : fewB m F = false := by simpa using hf
    go_enter Try.func3, Try.ntmps3
    go_wp2_with fail
    refine (awake_any _).mono ?_
    rintro e w1 ⟨rfl, hch1⟩
    have HC1 := Lib.hid hch1
    have HF := Lib.hid (few_any A m C F w1 (by
      obtain ⟨A', C', e, h2, h3⟩ := HQ.out
      injection e with e1 _ e2
      subst e1 e2
      exact ⟨_, _, rfl, h2, fun h => by
        obtain ⟨b, o, e, hc⟩ := h3 h
        exact ⟨b, o, e, fun c hcm => (hc c hcm).gr hch1⟩⟩))
    rw [hf2] at HF
    clear hch1
    go_wp2_with fail
    refine HF.out.mono ?_
    rintro e w2 ⟨rfl, d, rfl⟩
    go_wp2
    go_ret
    exact ⟨rfl, HC1.out.drewN d⟩
  have hm40 : m ≤ 40 := (of_decide_eq_true hf).1
  have HL5 := Lib.hid ((of_decide_eq_true hf).2)
  go_enter Try.func3, Try.ntmps3
  go_wp2_with fail
  refine (awake_any _).mono ?_
  rintro e w1 ⟨rfl, hch1⟩
  have HC1 := Lib.hid hch1
  have HF := Lib.hid (few_any A m C F w1 (by
    obtain ⟨A', C', e, h2, h3⟩ := HQ.out
    injection e with e1 _ e2
    subst e1 e2
    exact ⟨_, _, rfl, h2, fun h => by
      obtain ⟨b, o, e, hc⟩ := h3 h
      exact ⟨b, o, e, fun c hcm => (hc c hcm).gr hch1⟩⟩))
  rw [hf] at HF
  clear hch1 hf
  go_wp2_with fail
  refine HF.out.mono ?_
  rintro e w2 ⟨rfl, d, rfl⟩
  obtain ⟨w2, hw2⟩ : ∃ w2, w2 = w1.drewN d := ⟨_, rfl⟩
  have HC2 := Lib.hid (show Ch (fun _ => False) w w2 by rw [hw2]; exact HC1.out.drewN d)
  rw [← hw2]
  clear hw2 HC1 HF
  have HS0 := Lib.hid (show PutsSt w (w2.alloc (.cells #[.slice none 0 0] 28)) w2.heap.size (.slice none 0 0) (.slice none 0 0) [] [] ∧ ([] : List Nat).length ≤ 4106 * 0 from
    ⟨⟨nil_out _ _ HC2.out.size, World.ownsRow_nil _ _ _ _, fun i e => (by cases e), HC2.out.alloc _ _, fun x hx => by cases hx⟩, Nat.zero_le _⟩)
  obtain ⟨Bo, hBo⟩ : ∃ Bo, Bo = w2.heap.size := ⟨_, rfl⟩
  rw [← hBo] at HS0
  go_wp2_with fail
  rw [← hBo]
  clear hBo
  go_loopw [6, 7] (fun y i wr => ∃ k : Nat, k ≤ m ∧ i = .int .i64 k ∧ ∃ v L, Hid (PutsSt w wr Bo v y L L ∧ L.length ≤ 4106 * k)) (fun _ i _ => m - (intOf i).toNat)
  case atStart => exact ⟨0, Nat.zero_le _, rfl, _, _, HS0⟩
  case round =>
    obtain ⟨k, hk, rfl, v, L, HS⟩ := hrel
    clear HS0
    by_cases hlt : k < m
    case neg =>
      obtain rfl : k = m := by omega
      have HC := Lib.hid HS.out.1.ch
      have hL6 : L.length ≤ 1048576 := by have := HS.out.2; omega
      go_wp2_with fail
      refine (all_any w.heap.size Bo v L _ HS.out.1.out hL6).mono ?_
      rintro e w3 ⟨x, rfl, h3, hch3⟩
      have hx := ownsRow_rowV h3 (by omega) (fun c _ => litZ_b HS.out.1.byt c)
      have hy := ownsRow_rowV (HS.out.1.gr hch3).want (by omega) (fun c _ => litZ_b HS.out.1.byt c)
      obtain ⟨A3, C3, rfl, _⟩ := id hx
      obtain ⟨A4, C4, e4, _⟩ := id hy
      cases e4
      have HX := Lib.hid hx
      have HY := Lib.hid hy
      have HC3 := Lib.hid (HC.out.trans hch3)
      clear h3 hch3 hx hy
      go_wp2_with fail
      refine (same_any _ _ _ _ _ _ _ _ _ HX.out HY.out).mono ?_
      rintro e w4 ⟨rfl, d4, rfl⟩
      rw [show eqB L.length L.length (litZ L) (litZ L) = true from decide_eq_true ⟨rfl, fun _ _ => rfl⟩]
      go_wp2
      go_ret
      exact ⟨rfl, HC3.out.drewN d4⟩
    obtain ⟨b, o, rfl, hp⟩ := HQ.out.at (Ch.refl _ w) hlt
    have h5 := HL5.out k hlt
    obtain ⟨p, hpF⟩ : ∃ p, p = F k := ⟨_, rfl⟩
    rw [← hpF] at hp h5
    clear hpF
    obtain ⟨kd, nn, V, l, z⟩ := p
    have hrow := hp.row
    have hnn := hp.nn
    dsimp only at hrow hnn h5
    obtain ⟨A2, C2, hV, hl2, _⟩ := id hrow
    subst hV
    have hl21 := hl2.1
    have HPA := Lib.hid (fun W (hk : Ch (fun _ => False) w W) => hp.gr hk)
    have i1 : (0 : Int) ≤ (k : Int) := Int.natCast_nonneg _
    have i2 : (k : Int) < (m : Int) := by omega
    have HOFF := Lib.hid (show Off (Foot Bo v) (.slice A2 l C2) from hrow.low.mono (fun i hi => HS.out.1.out.foot hi))
    have hL6 : L.length ≤ 1000000 := by have := HS.out.2; omega
    clear hl2 hp hrow
    by_cases h0 : kd = 0
    · subst h0
      by_cases hneg : nn < 0
      · have t5 : decide (nn < 0) = true := by simpa using hneg
        have HP := Lib.hid (lput_neg w.heap.size Bo nn (.slice A2 l C2) v L _ HS.out.1.out hneg)
        have pa := HPA.out _ HS.out.1.ch
        have c0 := pa.c0
        have c1 := pa.c1
        have c2 := pa.c2
        dsimp only at c0 c1 c2
        clear pa
        go_wp2_with fail
        refine HP.out.mono ?_
        rintro e w3 hp3
        obtain ⟨rfl, v3, h3⟩ := HS.out.1.put hp3
        have pa := HPA.out _ h3.ch
        have c0 := pa.c0
        have c1 := pa.c1
        have c2 := pa.c2
        dsimp only at c0 c1 c2
        have H3 := Lib.hid h3
        clear hp3 h3 pa HP
        go_wp2
        go_roundw
        case rel => exact ⟨k + 1, by omega, by go_num, v3, L, ⟨by have := H3.out; rwa [List.append_nil] at this, by have := HS.out.2; omega⟩⟩
        case measure => simp [intOf]; omega
      obtain ⟨n, rfl⟩ : ∃ n : Nat, nn = (n : Int) := ⟨nn.toNat, by omega⟩
      have t5 : decide ((n : Int) < 0) = false := by simp
      clear hneg
      have HP := Lib.hid (lput_num w.heap.size Bo n (.slice A2 l C2) v L _ HS.out.1.out (by omega) HS.out.1.ch.size hL6)
      have pa := HPA.out _ HS.out.1.ch
      have c0 := pa.c0
      have c1 := pa.c1
      have c2 := pa.c2
      dsimp only at c0 c1 c2
      clear pa
      go_wp2_with fail
      refine HP.out.mono ?_
      rintro e w3 hp3
      obtain ⟨rfl, v3, h3⟩ := HS.out.1.put hp3
      have pa := HPA.out _ h3.ch
      have c0 := pa.c0
      have c1 := pa.c1
      have c2 := pa.c2
      dsimp only at c0 c1 c2
      have H3 := Lib.hid h3
      clear hp3 h3 pa HP
      go_wp2_with fail
      refine (rnum_any n (by omega) _).mono ?_
      rintro e w4 ⟨x, rfl, h4, hc4⟩
      have hx := ownsRow_rowV h4 (by have := digs_len10 (n := n) (by omega); omega) (fun c _ => litZ_b (digs_b _) c)
      obtain ⟨y5, w5, hr5, h5⟩ := (H3.out.gr hc4).app hx (by have := digs_len10 (n := n) (by omega); omega)
      rw [rowL_lit] at h5
      have HR5 := Lib.hid hr5
      have H5 := Lib.hid h5
      clear h4 hc4 hx hr5 h5 H3
      go_wp2_with (at_builtin; refine wpList_app_of _ rfl (.tmp 62) (.tmp 68) rfl rfl _ _ y5 w5 rfl rfl HR5.out ?_)
      go_roundw
      case rel => exact ⟨k + 1, by omega, by go_num, v3, _, ⟨H5.out, by have := digs_len10 (n := n) (by omega); have := HS.out.2; simp; omega⟩⟩
      case measure => simp [intOf]; omega
    have t6 : (kd == 0) = false := by simpa using h0
    by_cases h1 : kd = 1
    · subst h1
      have HP := Lib.hid (lput_int w.heap.size Bo nn (.slice A2 l C2) v L _ HS.out.1.out hnn HS.out.1.ch.size hL6)
      have pa := HPA.out _ HS.out.1.ch
      have c0 := pa.c0
      have c1 := pa.c1
      have c2 := pa.c2
      dsimp only at c0 c1 c2
      clear pa
      go_wp2_with fail
      refine HP.out.mono ?_
      rintro e w3 hp3
      obtain ⟨rfl, v3, h3⟩ := HS.out.1.put hp3
      have pa := HPA.out _ h3.ch
      have c0 := pa.c0
      have c1 := pa.c1
      have c2 := pa.c2
      dsimp only at c0 c1 c2
      have H3 := Lib.hid h3
      clear hp3 h3 pa HP
      go_wp2_with fail
      refine (rint_any nn hnn _).mono ?_
      rintro e w4 ⟨x, rfl, h4, hc4⟩
      have hx := ownsRow_rowV h4 (by have := digs_len10 (turn_lt hnn); omega) (fun c _ => litZ_b (digs_b _) c)
      obtain ⟨y5, w5, hr5, h5⟩ := (H3.out.gr hc4).app hx (by have := digs_len10 (turn_lt hnn); omega)
      rw [rowL_lit] at h5
      have HR5 := Lib.hid hr5
      have H5 := Lib.hid h5
      clear h4 hc4 hx hr5 h5 H3
      go_wp2_with (at_builtin; refine wpList_app_of _ rfl (.tmp 72) (.tmp 78) rfl rfl _ _ y5 w5 rfl rfl HR5.out ?_)
      go_roundw
      case rel => exact ⟨k + 1, by omega, by go_num, v3, _, ⟨H5.out, by have := digs_len10 (turn_lt hnn); have := HS.out.2; simp; omega⟩⟩
      case measure => simp [intOf]; omega
    have t7 : (kd == 1) = false := by simpa using h1
    by_cases hlong : 4096 < l
    · skip
      have HP := Lib.hid (lput_long w.heap.size Bo kd nn A2 l C2 v L _ HS.out.1.out h0 h1 hlong hl21)
      have pa := HPA.out _ HS.out.1.ch
      have c0 := pa.c0
      have c1 := pa.c1
      have c2 := pa.c2
      dsimp only at c0 c1 c2
      clear pa
      go_wp2_with fail
      refine HP.out.mono ?_
      rintro e w3 hp3
      obtain ⟨rfl, v3, h3⟩ := HS.out.1.put hp3
      have pa := HPA.out _ h3.ch
      have c0 := pa.c0
      have c1 := pa.c1
      have c2 := pa.c2
      dsimp only at c0 c1 c2
      have H3 := Lib.hid h3
      clear hp3 h3 pa HP
      go_wp2_with fail
      refine (rbytes_long A2 l C2 hlong hl21 _).mono ?_
      rintro e w4 ⟨rfl, rfl⟩
      obtain ⟨y5, w5, hr5, h5⟩ := H3.out.app (nil_row _ (fun _ => 0)) (by omega)
      rw [show rowL 0 (fun _ => 0) = [] from rfl] at h5
      simp only [List.append_nil] at h5
      have HR5 := Lib.hid hr5
      have H5 := Lib.hid h5
      clear hr5 h5 H3
      go_wp2_with (at_builtin; refine wpList_app_of _ rfl (.tmp 50) (.tmp 51) rfl rfl _ _ y5 w5 rfl rfl HR5.out ?_)
      go_roundw
      case rel => exact ⟨k + 1, by omega, by go_num, v3, L, ⟨H5.out, by have := HS.out.2; omega⟩⟩
      case measure => simp [intOf]; omega
    · skip
      have hb5 := (HPA.out _ (Ch.refl _ w)).row.bytes
      dsimp only at hb5
      have HP := Lib.hid (lput_bytes w.heap.size Bo kd nn A2 l C2 z v L _ HS.out.1.out h0 h1 (by omega) (HPA.out _ HS.out.1.ch).row HOFF.out HS.out.1.ch.size hL6)
      have pa := HPA.out _ HS.out.1.ch
      have c0 := pa.c0
      have c1 := pa.c1
      have c2 := pa.c2
      dsimp only at c0 c1 c2
      clear pa
      go_wp2_with fail
      refine HP.out.mono ?_
      rintro e w3 hp3
      obtain ⟨rfl, v3, h3⟩ := HS.out.1.put hp3
      have pa := HPA.out _ h3.ch
      have c0 := pa.c0
      have c1 := pa.c1
      have c2 := pa.c2
      dsimp only at c0 c1 c2
      have H3 := Lib.hid h3
      clear hp3 h3 pa HP
      go_wp2_with fail
      refine (rbytes_any A2 l C2 z _ (by omega) (HPA.out _ H3.out.ch).row).mono ?_
      rintro e w4 ⟨x, rfl, h4, hc4⟩
      have hx := ownsRow_rowV h4 (by have := byL_len (l := l) (by omega) z; omega) (fun c _ => litZ_b (byL_b hb5) c)
      obtain ⟨y5, w5, hr5, h5⟩ := (H3.out.gr hc4).app hx (by have := byL_len (l := l) (by omega) z; omega)
      rw [rowL_lit] at h5
      have HR5 := Lib.hid hr5
      have H5 := Lib.hid h5
      clear h4 hc4 hx hr5 h5 H3
      go_wp2_with (at_builtin; refine wpList_app_of _ rfl (.tmp 50) (.tmp 51) rfl rfl _ _ y5 w5 rfl rfl HR5.out ?_)
      go_roundw
      case rel => exact ⟨k + 1, by omega, by go_num, v3, _, ⟨H5.out, by have := byL_len (l := l) (by omega) z; have := HS.out.2; simp; omega⟩⟩
      case measure => simp [intOf]; omega
#print axioms codePuts_of
end Go.Proofs.Ytfnmdcfnojgofaa
