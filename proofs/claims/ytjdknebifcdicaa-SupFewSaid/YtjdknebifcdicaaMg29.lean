/-
  In plain words: what a call may do to a device; what stays of a sector that nothing is done to.
-/
import Derived.Test.YtjdknebifcdicaaMg28
namespace Go.Proofs.Ytjdknebifcdicaa
open Go.RowKit
set_option linter.unusedVariables false
set_option maxRecDepth 100000

theorem lastW_none {L : List Wt} {a : Nat} (h : ∀ x ∈ L, x.pl ≠ a) : lastW L a = none := by
  cases hq : lastW L a with
  | none => rfl
  | some x => exact (h x (scan_mem hq).1 (scan_mem hq).2).elim

/-! ### how much a call does -/
structure Near (d d' : Dev) : Prop where
  n : d'.n = d.n
  ops : d'.ops ≤ d.ops + 1
  W : d'.W.length ≤ d.W.length + 1
  drops : ∀ a, d'.drops a ≤ d.drops a + 1000
  miss : ∀ a, (d'.miss a).length ≤ (d.miss a).length + 1
theorem Near.lim {d d' : Dev} {t : Nat} (h : Near d d') (hl : Lim d t) (hm : LimM d t) : Lim d' (t + 1) ∧ LimM d' (t + 1) :=
  ⟨⟨Nat.le_trans h.ops (by have := hl.ops; omega), Nat.le_trans h.W (by have := hl.W; omega), fun a => by have := h.drops a; have := hl.drops a; omega⟩, fun a => by have := h.miss a; have := hm a; omega⟩
theorem Near.refl (d : Dev) : Near d d := ⟨rfl, by omega, by omega, fun _ => by omega, fun _ => by omega⟩
theorem diesD_miss (d : Dev) : (diesD d).miss = d.miss ∧ (diesD d).has = d.has ∧ (diesD d).lost = d.lost := by
  unfold diesD
  split
  · split <;> exact ⟨rfl, rfl, rfl⟩
  · exact ⟨rfl, rfl, rfl⟩
theorem aimD_near (d : Dev) (a : Nat) : (aimD d a).ops = d.ops ∧ (∀ k, (aimD d a).drops k ≤ d.drops k) ∧ (∀ k, (aimD d a).miss k = d.miss k ∨ ∃ t, d.miss k = t :: (aimD d a).miss k) ∧ (aimD d a).has = d.has ∧ (aimD d a).lost = d.lost := by
  unfold aimD
  split
  · refine ⟨rfl, fun k => ?_, fun k => Or.inl rfl, rfl, rfl⟩
    show up d.drops a (d.drops a - 1) k ≤ _
    unfold up
    split
    · rename_i h; rw [h]; omega
    · omega
  · split
    · exact ⟨rfl, fun _ => Nat.le_refl _, fun _ => Or.inl rfl, rfl, rfl⟩
    · rename_i t r e
      refine ⟨rfl, fun _ => Nat.le_refl _, fun k => ?_, rfl, rfl⟩
      show up d.miss a r k = _ ∨ ∃ t, d.miss k = t :: up d.miss a r k
      by_cases q : k = a
      · rw [q, up_same]; exact Or.inr ⟨t, e⟩
      · rw [up_other _ _ q]; exact Or.inl rfl
theorem crTo_same (d : Dev) (m : Nat) (q : Nat → Bool) : ∀ k, (crTo d m q k).ops = d.ops ∧ (crTo d m q k).drops = d.drops ∧ (crTo d m q k).miss = d.miss
  | 0 => ⟨rfl, rfl, rfl⟩
  | k + 1 => by
    unfold crTo
    cases h : d.W[k]? with
    | none => exact crTo_same d m q k
    | some x =>
      dsimp only
      split
      · exact crTo_same d m q k
      · exact crTo_same d m q k
theorem near_write (d : Dev) (a : Int) (n : Nat) (z : Nat → Nat) : Near d (writeD d a n z) := by
  unfold writeD
  obtain ⟨e1, e2, e3, e4⟩ := diesD_more d
  obtain ⟨m1, _, _⟩ := diesD_miss d
  split
  · split
    · exact ⟨e1, by rw [e3]; omega, by rw [e2]; omega, fun a => by rw [e4]; omega, fun a => by rw [m1]; omega⟩
    · have hw : (wr1 d).n = d.n ∧ (wr1 d).ops = d.ops + 1 ∧ (wr1 d).W = d.W ∧ (wr1 d).drops = d.drops ∧ (wr1 d).miss = d.miss := ⟨e1, rfl, e2, e4, m1⟩
      obtain ⟨a1, a2, a3, _, _⟩ := aimD_near (wr1 d) a.toNat
      obtain ⟨b1, b2⟩ := aimD_nW (wr1 d) a.toNat
      have hm : ∀ k, ((aimD (wr1 d) a.toNat).miss k).length ≤ (d.miss k).length + 1 := fun k => by
        rcases a3 k with q | ⟨t, q⟩
        · rw [q, hw.2.2.2.2]; omega
        · rw [hw.2.2.2.2] at q; rw [q, List.length_cons]; omega
      have hd : ∀ k, (aimD (wr1 d) a.toNat).drops k ≤ d.drops k + 1000 := fun k => by have := a2 k; rw [hw.2.2.2.1] at this; omega
      split
      · exact ⟨b1.trans hw.1, by show (aimD (wr1 d) a.toNat).ops ≤ _; rw [a1, hw.2.1]; omega, by simp, hd, hm⟩
      · exact ⟨b1.trans hw.1, by rw [a1, hw.2.1]; omega, by rw [b2, hw.2.2.1]; omega, hd, hm⟩
  · exact Near.refl d
theorem near_flush (d : Dev) : Near d (flushD d) := by
  unfold flushD
  obtain ⟨e1, e2, e3, e4⟩ := diesD_more d
  obtain ⟨m1, _, _⟩ := diesD_miss d
  split
  · exact Near.refl d
  · split
    · exact ⟨e1, by rw [e3]; omega, by rw [e2]; omega, fun a => by rw [e4]; omega, fun a => by rw [m1]; omega⟩
    · obtain ⟨s1, s2, s3, _⟩ := finAll_same d.W (diesD d)
      exact ⟨(finAll_n _ _).trans e1, by show (finAll (diesD d) d.W).ops ≤ _; rw [s1, e3]; omega, by show 0 ≤ _; omega, fun a => by show (finAll (diesD d) d.W).drops a ≤ _; rw [s2, e4]; omega, fun a => by show ((finAll (diesD d) d.W).miss a).length ≤ _; rw [s3, m1]; omega⟩
theorem near_settle (d : Dev) (k : Nat) : (settleD d k).n = d.n ∧ (settleD d k).ops = d.ops ∧ (settleD d k).W.length ≤ d.W.length ∧ (settleD d k).drops = d.drops ∧ (settleD d k).miss = d.miss := by
  obtain ⟨s1, s2, s3, _⟩ := finAll_same (ofS d.W k) d
  exact ⟨finAll_n _ _, s1, offS_len d.W k, s2, s3⟩
theorem near_of {d d' : Dev} (h : d'.n = d.n ∧ d'.ops = d.ops ∧ d'.W.length ≤ d.W.length ∧ d'.drops = d.drops ∧ d'.miss = d.miss) : Near d d' :=
  ⟨h.1, by rw [h.2.1]; omega, by have := h.2.2.1; omega, fun a => by rw [h.2.2.2.1]; omega, fun a => by rw [h.2.2.2.2]; omega⟩
theorem near_fault (d : Dev) (f : Fa) : Near d (faultD d f) := by
  unfold faultD
  split
  · split
    · unfold rotD
      split
      · exact Near.refl d
      · exact near_of (d' := rotAt (settleD d f.pl.toNat) f.pl.toNat f.off.toNat (maskOf f) (min 4 (256 - f.off.toNat))) (near_settle d f.pl.toNat)
    · split
      · exact near_of (d' := blankD d f.pl.toNat) (near_settle d f.pl.toNat)
      · split
        · exact near_of (d' := loseD d f.pl.toNat) (near_settle d f.pl.toNat)
        · split
          · unfold dropD
            split
            · exact Near.refl d
            · rename_i hn
              refine ⟨rfl, by show d.ops ≤ _; omega, by show d.W.length ≤ _; omega, fun a => ?_, fun a => by show (d.miss a).length ≤ _; omega⟩
              show up d.drops _ _ a ≤ _
              unfold up
              split
              · rename_i h; rw [h]; omega
              · omega
          · split
            · unfold missD
              split
              · refine ⟨rfl, by show d.ops ≤ _; omega, by show d.W.length ≤ _; omega, fun a => by show d.drops a ≤ _; omega, fun a => ?_⟩
                show (up d.miss _ _ a).length ≤ _
                unfold up
                split
                · rename_i h; rw [h]; simp
                · omega
              · exact Near.refl d
            · exact Near.refl d
  · exact Near.refl d
theorem near_crash (d : Dev) (m : Nat) (q : Nat → Bool) : Near d (crashD d m q) := by
  obtain ⟨s1, s2, s3⟩ := crTo_same d m q d.W.length
  exact ⟨(crTo_nW d m q _).1, by show (crTo d m q d.W.length).ops ≤ _; rw [s1]; omega, by show 0 ≤ _; omega, fun a => by show (crTo d m q d.W.length).drops a ≤ _; rw [s2]; omega, fun a => by show ((crTo d m q d.W.length).miss a).length ≤ _; rw [s3]; omega⟩

/-! ### what stays -/
structure Keep (d : Dev) (a b : Nat) : Prop where
  n : d.n = 20
  W : ∀ x ∈ d.W, x.pl ≠ a
  miss : ∀ k y, y ∈ d.miss k → y ≠ a
  has : ∀ c, c < 256 → d.has a c = b
  lost : d.lost a = false
theorem Keep.of {d d' : Dev} {a b : Nat} (h : Keep d a b) (hn : d'.n = d.n) (hW : ∀ x ∈ d'.W, x ∈ d.W) (hm : ∀ k y, y ∈ d'.miss k → y ∈ d.miss k) (hh : d'.has a = d.has a) (hl : d'.lost a = d.lost a) : Keep d' a b :=
  ⟨hn.trans h.n, fun x hx => h.W x (hW x hx), fun k y hy => h.miss k y (hm k y hy), fun c hc => by rw [hh]; exact h.has c hc, hl.trans h.lost⟩
theorem fin_far (d : Dev) {L : List Wt} {a : Nat} (h : ∀ x ∈ L, x.pl ≠ a) : (finAll d L).has a = d.has a ∧ (finAll d L).lost a = d.lost a := by
  obtain ⟨h1, h2⟩ := finAll_has d a L
  rw [lastW_none h] at h1 h2
  exact ⟨h1, h2⟩
theorem keep_dies {d : Dev} {a b : Nat} (h : Keep d a b) : Keep (diesD d) a b := by
  obtain ⟨e1, e2, _, _⟩ := diesD_more d
  obtain ⟨m1, m2, m3⟩ := diesD_miss d
  exact h.of e1 (fun x hx => by rw [e2] at hx; exact hx) (fun k y hy => by rw [m1] at hy; exact hy) (by rw [m2]) (by rw [m3])
theorem keep_aim {d : Dev} {a b k : Nat} (h : Keep d a b) : Keep (aimD d k) a b := by
  obtain ⟨_, _, a3, a4, a5⟩ := aimD_near d k
  obtain ⟨b1, b2⟩ := aimD_nW d k
  refine h.of b1 (fun x hx => by rw [b2] at hx; exact hx) (fun j y hy => ?_) (by rw [a4]) (by rw [a5])
  rcases a3 j with q | ⟨t, q⟩
  · rw [q] at hy; exact hy
  · rw [q]; exact List.mem_cons_of_mem _ hy
theorem keep_write {d : Dev} {a b n : Nat} {pl : Int} {z : Nat → Nat} (h : Keep d a b) (hp : pl ≠ (a : Int)) : Keep (writeD d pl n z) a b := by
  unfold writeD
  have hw : Keep (wr1 d) a b := (keep_dies h).of rfl (fun _ hx => hx) (fun _ _ hy => hy) rfl rfl
  split
  · rename_i ho
    split
    · exact keep_dies h
    · have ha := keep_aim (k := pl.toNat) hw
      split
      · rename_i hc
        refine ⟨ha.n, fun x hx => ?_, ha.miss, ha.has, ha.lost⟩
        rcases List.mem_append.1 hx with q | q
        · exact h.W x q
        · rw [List.mem_singleton.1 q]
          show aimT (wr1 d) pl.toNat ≠ a
          have hd : ¬ 0 < (wr1 d).drops pl.toNat := of_decide_eq_true hc
          unfold aimT
          rw [if_neg hd]
          split
          · obtain ⟨_, k, hk, _⟩ := openE_ok ho.1
            omega
          · rename_i t r e
            exact hw.miss pl.toNat t (by rw [e]; exact List.mem_cons_self)
      · exact ha
  · exact h
theorem keep_flush {d : Dev} {a b : Nat} (h : Keep d a b) : Keep (flushD d) a b := by
  unfold flushD
  split
  · exact h
  · split
    · exact keep_dies h
    · have hd := keep_dies h
      obtain ⟨f1, f2⟩ := fin_far (diesD d) h.W
      obtain ⟨_, _, s3, _⟩ := finAll_same d.W (diesD d)
      exact hd.of (finAll_n _ _) (fun x hx => by cases hx) (fun k y hy => by change y ∈ (finAll (diesD d) d.W).miss k at hy; rw [s3] at hy; exact hy) f1 f2
theorem keep_settle {d : Dev} {a b k : Nat} (h : Keep d a b) : Keep (settleD d k) a b := by
  obtain ⟨f1, f2⟩ := fin_far d (L := ofS d.W k) (a := a) (fun x hx => h.W x (List.mem_filter.1 hx).1)
  obtain ⟨_, _, s3, _⟩ := finAll_same (ofS d.W k) d
  exact h.of (finAll_n _ _) (fun x hx => (List.mem_filter.1 hx).1) (fun j y hy => by change y ∈ (finAll d (ofS d.W k)).miss j at hy; rw [s3] at hy; exact hy) f1 f2
theorem keep_fault {d : Dev} {a b : Nat} {f : Fa} (h : Keep d a b) (hp : f.pl ≠ (a : Int)) (ht : f.to ≠ (a : Int)) : Keep (faultD d f) a b := by
  unfold faultD
  split
  · rename_i hb
    have hb' := of_decide_eq_true hb
    have hpn : a ≠ f.pl.toNat := by omega
    have hs := keep_settle (k := f.pl.toNat) h
    split
    · unfold rotD
      split
      · exact h
      · exact hs.of rfl (fun _ hx => hx) (fun _ _ hy => hy) (up_other _ _ hpn) rfl
    · split
      · exact hs.of rfl (fun _ hx => hx) (fun _ _ hy => hy) (up_other _ _ hpn) (up_other _ _ hpn)
      · split
        · exact hs.of rfl (fun _ hx => hx) (fun _ _ hy => hy) rfl (up_other _ _ hpn)
        · split
          · unfold dropD
            split
            · exact h
            · exact h.of rfl (fun _ hx => hx) (fun _ _ hy => hy) rfl rfl
          · split
            · unfold missD
              split
              · rename_i hb2
                have hb2' := of_decide_eq_true hb2
                refine ⟨h.n, h.W, fun k y hy => ?_, h.has, h.lost⟩
                change y ∈ up d.miss _ _ k at hy
                unfold up at hy
                split at hy
                · rcases List.mem_append.1 hy with q | q
                  · exact h.miss _ y q
                  · rw [List.mem_singleton.1 q]; omega
                · exact h.miss k y hy
              · exact h
            · exact h
  · exact h
theorem keep_crash {d : Dev} {a b m : Nat} {q : Nat → Bool} (h : Keep d a b) : Keep (crashD d m q) a b := by
  have hk : ∀ k, (crTo d m q k).has a = d.has a ∧ (crTo d m q k).lost a = d.lost a := fun k => by
    induction k with
    | zero => exact ⟨rfl, rfl⟩
    | succ k ih =>
      unfold crTo
      cases hx : d.W[k]? with
      | none => exact ih
      | some x =>
        dsimp only
        split
        · have hne := h.W x (List.mem_of_getElem? hx)
          exact ⟨(up_other _ _ hne.symm).trans ih.1, (up_other _ _ hne.symm).trans ih.2⟩
        · exact ih
  obtain ⟨_, _, s3⟩ := crTo_same d m q d.W.length
  exact h.of (crTo_nW d m q _).1 (fun x hx => by cases hx) (fun k y hy => by change y ∈ (crTo d m q d.W.length).miss k at hy; rw [s3] at hy; exact hy) (hk _).1 (hk _).2
end Go.Proofs.Ytjdknebifcdicaa
