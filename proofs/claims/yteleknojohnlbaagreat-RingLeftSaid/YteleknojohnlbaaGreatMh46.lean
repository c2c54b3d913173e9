/-
  What was appended is told, in order, as long as of each slot one of both sectors is left (RingLeft, P11.3, P11.5): in plain words. Four bytes compared with four zeroes.
-/
import Derived.Test.YteleknojohnlbaaGreatMh45
import Derived.Laws.StructEq
import Derived.ChangeKeysEq
namespace Go.Proofs.YteleknojohnlbaaGreat
open Go.RowKit
set_option linter.unusedVariables false
set_option maxRecDepth 100000
set_option linter.unusedSimpArgs false

/-! ### a sector is damaged -/
def faAt (f : Fa) (a : Int) : Fa := ⟨f.kind, a, f.off, 0, 0, f.k0, f.k1, f.k2, f.k3⟩
structure FaBad (f : Fa) : Prop where
  kind : 1 ≤ f.kind ∧ f.kind ≤ 3
  off : 0 ≤ f.off ∧ f.off ≤ 252
  mask : ¬ (f.k0 = 0 ∧ f.k1 = 0 ∧ f.k2 = 0 ∧ f.k3 = 0)
theorem faAt_ok {f : Fa} (h : FaOk f) {a : Int} (ha : I64 a) : FaOk (faAt f a) := by
  have z : I64 0 := by unfold I64; omega
  exact ⟨h.kind, ha, h.off, z, z, h.k0, h.k1, h.k2, h.k3⟩
theorem mask_few {f : Fa} (h : FaBad f) (a : Int) : fewB (maskOf (faAt f a)) 4 = true := by
  have e : fewB (maskOf (faAt f a)) 4 = ((((false || (f.k0 != 0)) || (f.k1 != 0)) || (f.k2 != 0)) || (f.k3 != 0)) := rfl
  rw [e]
  cases h0 : f.k0 != 0
  · cases h1 : f.k1 != 0
    · cases h2 : f.k2 != 0
      · cases h3 : f.k3 != 0
        · exact absurd ⟨by simpa using h0, by simpa using h1, by simpa using h2, by simpa using h3⟩ h.mask
        · rfl
      · rfl
    · rfl
  · cases f.k1 != 0 <;> cases f.k2 != 0 <;> cases f.k3 != 0 <;> rfl
theorem few_bad {b : Bk} {z y : Nat → Nat} {a : Nat} (hb : Bytes b.len b.z) (hz : ∀ c, c < 256 → z c = sectZ b c) (hy : Bytes 4 y) (ha : a ≤ 252) (hf : fewB y 4 = true) : opensB 256 (fewZ z y a 4) = false := by
  have e : opensB 256 (fewZ z y a 4) = opensB 256 (fewZ (sectZ b) y a 4) := opensB_eq fun c hc => by
    unfold fewZ
    split
    · rw [hz c hc]
    · exact hz c hc
  rw [e]
  have hw : Crc.wholeB 256 (fewZ (sectZ b) y a 4) = false := by
    have := few_whole (n := 252) (secZ_b hb 252) hy ha
    rw [hf] at this
    exact this
  cases ho : opensB 256 (fewZ (sectZ b) y a 4)
  · rfl
  · rw [opens_whole ho] at hw; cases hw
section
variable {vol : Int} {g : Gn} {N : Nat} {d : Dev} {C : Nat → Nat → Ct}
theorem settle_fin (h : Fine N d) (k : Nat) : settleD d k = d := by
  unfold settleD
  rw [h.qt.W]
  obtain ⟨n, has, lost, drops, miss, W, dead, armed, left, ops⟩ := d
  have hW : W = [] := h.qt.W
  subst hW
  rfl
theorem fault_log (hN : 4 + 2 * g.W ≤ N) (h : Fine N d) (hL : DevL vol g d C) {f : Fa} (hf : FaOk f) (hb : FaBad f) {c0 s0 : Nat} (hc0 : c0 < 2) (hs0 : s0 < g.W) (hC : C c0 s0 ≠ .bad) : Fine N (faultD d (faAt f (adN g c0 s0 : Int))) ∧ DevL vol g (faultD d (faAt f (adN g c0 s0 : Int))) (setBad C c0 s0) := by
  have hk := adN_lt hc0 hs0 hN
  have hh : hasB d (adN g c0 s0 : Int) = true := decide_eq_true (by rw [h.qt.n]; omega)
  have e0 : faultD d (faAt f (adN g c0 s0 : Int)) = if f.kind = 1 then rotD d (faAt f (adN g c0 s0 : Int)) else if f.kind = 2 then blankD d (adN g c0 s0) else if f.kind = 3 then loseD d (adN g c0 s0) else if f.kind = 4 then dropD d (faAt f (adN g c0 s0 : Int)) else if f.kind = 5 then missD d (faAt f (adN g c0 s0 : Int)) else d := by
    unfold faultD
    rw [show hasB d (faAt f (adN g c0 s0 : Int)).pl = true from hh, if_pos rfl]
    rfl
  -- what is left of the others
  have rest : ∀ d' : Dev, (∀ a, a ≠ adN g c0 s0 → d'.has a = d.has a ∧ d'.lost a = d.lost a) → (d'.lost (adN g c0 s0) = true ∨ opensB 256 (d'.has (adN g c0 s0)) = false) → DevL vol g d' (setBad C c0 s0) := by
    intro d' h1 h2 c s hc hs
    unfold setBad
    by_cases q : c = c0 ∧ s = s0
    · rw [if_pos q]
      obtain ⟨rfl, rfl⟩ := q
      exact h2
    · rw [if_neg q]
      have ne : adN g c s ≠ adN g c0 s0 := fun e => q (adN_inj hc hc0 hs hs0 e)
      exact (hL c s hc hs).same (h1 _ ne).1 (h1 _ ne).2
  have hkd := hb.kind
  by_cases k1 : f.kind = 1
  · rw [e0, if_pos k1]
    have er : rotD d (faAt f (adN g c0 s0 : Int)) = { d with has := up d.has (adN g c0 s0) (fewZ (d.has (adN g c0 s0)) (maskOf (faAt f (adN g c0 s0 : Int))) f.off.toNat 4) } := by
      unfold rotD
      have ho := hb.off
      rw [if_neg (show ¬ ((faAt f (adN g c0 s0 : Int)).off < 0 ∨ 256 ≤ (faAt f (adN g c0 s0 : Int)).off) by show ¬ (f.off < 0 ∨ 256 ≤ f.off); omega)]
      show rotAt (settleD d ((adN g c0 s0 : Int)).toNat) ((adN g c0 s0 : Int)).toNat f.off.toNat _ (min 4 (256 - f.off.toNat)) = _
      rw [Int.toNat_natCast, settle_fin h, Nat.min_eq_left (by omega)]
      rfl
    rw [er]
    refine ⟨⟨⟨h.qt.n, h.qt.dead, h.qt.armed, h.qt.W⟩, h.drops, h.miss⟩, rest _ (fun a ha => ⟨up_other _ _ ha, rfl⟩) (Or.inr ?_)⟩
    show opensB 256 (up d.has (adN g c0 s0) _ (adN g c0 s0)) = false
    rw [up_same]
    have hmk : Bytes 4 (maskOf (faAt f (adN g c0 s0 : Int))) := fun j _ => mask_lt hf j
    have ho := hL c0 s0 hc0 hs0
    have hoff := hb.off
    cases hct : C c0 s0 with
    | free =>
      rw [hct] at ho
      exact few_bad (b := fbk vol (adN g c0 s0 : Int)) (fun c hc => absurd hc (Nat.not_lt_zero c)) ho.2 hmk (by omega) (mask_few hb _)
    | pc q =>
      rw [hct] at ho
      exact few_bad (b := rinB vol g.ge (c0 : Int) q undef) (fun c hc => Cod.litZ_b (bodyR_b ho.2.2.2) c) ho.1.2 hmk (by omega) (mask_few hb _)
    | bad => exact absurd hct hC
  · rw [e0, if_neg k1]
    by_cases k2 : f.kind = 2
    · rw [if_pos k2]
      have er : blankD d (adN g c0 s0) = { d with has := up d.has (adN g c0 s0) (fun _ => 0), lost := up d.lost (adN g c0 s0) false } := by
        unfold blankD
        rw [settle_fin h]
        rfl
      rw [er]
      refine ⟨⟨⟨h.qt.n, h.qt.dead, h.qt.armed, h.qt.W⟩, h.drops, h.miss⟩, rest _ (fun a ha => ⟨up_other _ _ ha, up_other _ _ ha⟩) (Or.inr ?_)⟩
      show opensB 256 (up d.has (adN g c0 s0) _ (adN g c0 s0)) = false
      rw [up_same]
      exact opens_zero
    · have k3 : f.kind = 3 := by omega
      rw [if_neg k2, if_pos k3]
      have er : loseD d (adN g c0 s0) = { d with lost := up d.lost (adN g c0 s0) true } := by
        unfold loseD
        rw [settle_fin h]
      rw [er]
      exact ⟨⟨⟨h.qt.n, h.qt.dead, h.qt.armed, h.qt.W⟩, h.drops, h.miss⟩, rest _ (fun a ha => ⟨rfl, up_other _ _ ha⟩) (Or.inl (up_same _ _ _))⟩
end
/-! ### some of them -/
def huM (q : Nat → Int) (i : Nat) : Nat := (q i - 1).toNat
def huD (g : Gn) (f : Fa) (q : Nat → Int) (d : Dev) : Nat → Dev
  | 0 => d
  | i + 1 => if q i = 1 ∨ q i = 2 then faultD (huD g f q d i) (faAt f (adN g (huM q i) i : Int)) else huD g f q d i
def huK (C : Nat → Nat → Ct) (q : Nat → Int) (n c s : Nat) : Ct := if s < n ∧ ((q s = 1 ∧ c = 0) ∨ (q s = 2 ∧ c = 1)) then .bad else C c s
theorem hu_all {vol : Int} {g : Gn} {N : Nat} {d : Dev} {C : Nat → Nat → Ct} {f : Fa} {q : Nat → Int} (hN : 4 + 2 * g.W ≤ N) (h : Fine N d) (hL : DevL vol g d C) (hf : FaOk f) (hb : FaBad f) (hC : ∀ c s, c < 2 → s < g.W → C c s ≠ .bad) : ∀ n, n ≤ g.W → Fine N (huD g f q d n) ∧ DevL vol g (huD g f q d n) (huK C q n)
  | 0, _ => ⟨h, fun c s hc hs => by unfold huK; rw [if_neg (by omega)]; exact hL c s hc hs⟩
  | n + 1, hn => by
    obtain ⟨f1, l1⟩ := hu_all (q := q) hN h hL hf hb hC n (by omega)
    have key : ∀ c s, c < 2 → s < g.W → (if q n = 1 ∨ q n = 2 then setBad (huK C q n) (huM q n) n c s else huK C q n c s) = huK C q (n + 1) c s := fun c s hc hs => by
      unfold setBad huK huM
      by_cases e : s = n
      · subst e
        by_cases h1 : q s = 1
        · rw [if_pos (Or.inl h1), h1]
          by_cases hc0 : c = 0
          · subst hc0
            rw [if_pos ⟨rfl, rfl⟩, if_pos ⟨by omega, Or.inl ⟨rfl, rfl⟩⟩]
          · rw [if_neg (fun k => hc0 k.1), if_neg (by omega), if_neg (by omega)]
        · by_cases h2 : q s = 2
          · rw [if_pos (Or.inr h2), h2]
            by_cases hc1 : c = 1
            · subst hc1
              rw [if_pos ⟨rfl, rfl⟩, if_pos ⟨by omega, Or.inr ⟨rfl, rfl⟩⟩]
            · rw [if_neg (fun k => hc1 k.1), if_neg (by omega), if_neg (by omega)]
          · rw [if_neg (by omega), if_neg (by omega), if_neg (by omega)]
      · have e1 : (s < n + 1 ∧ ((q s = 1 ∧ c = 0) ∨ (q s = 2 ∧ c = 1))) ↔ (s < n ∧ ((q s = 1 ∧ c = 0) ∨ (q s = 2 ∧ c = 1))) := by
          constructor
          · rintro ⟨a, b⟩; exact ⟨by omega, b⟩
          · rintro ⟨a, b⟩; exact ⟨by omega, b⟩
        by_cases h1 : q n = 1 ∨ q n = 2
        · rw [if_pos h1, if_neg (fun k => e k.2)]
          simp only [e1]
        · rw [if_neg h1]
          simp only [e1]
    by_cases hq : q n = 1 ∨ q n = 2
    · have hm : huM q n < 2 := by unfold huM; omega
      have hnb : huK C q n (huM q n) n ≠ .bad := by
        unfold huK
        rw [if_neg (by omega)]
        exact hC _ _ hm (by omega)
      obtain ⟨f2, l2⟩ := fault_log hN f1 l1 hf hb hm (show n < g.W by omega) hnb
      have e : huD g f q d (n + 1) = faultD (huD g f q d n) (faAt f (adN g (huM q n) n : Int)) := if_pos hq
      rw [e]
      refine ⟨f2, fun c s hc hs => ?_⟩
      rw [← key c s hc hs, if_pos hq]
      exact l2 c s hc hs
    · have e : huD g f q d (n + 1) = huD g f q d n := if_neg hq
      rw [e]
      refine ⟨f1, fun c s hc hs => ?_⟩
      rw [← key c s hc hs, if_neg hq]
      exact l1 c s hc hs
theorem hu_hurt {W : Nat} {C : Nat → Nat → Ct} {q : Nat → Int} {n : Nat} : Hurt W C (huK C q n) ∧ ∀ s, s < W → huK C q n 0 s = C 0 s ∨ huK C q n 1 s = C 1 s := by
  refine ⟨⟨fun c s _ _ => ?_⟩, fun s _ => ?_⟩
  · unfold huK
    split
    · exact Or.inr rfl
    · exact Or.inl rfl
  · unfold huK
    by_cases h1 : q s = 1
    · exact Or.inr (by rw [if_neg (by omega)])
    · exact Or.inl (by rw [if_neg (by omega)])
theorem hu_lim {g : Gn} {f : Fa} {q : Nat → Int} {d : Dev} {t : Nat} (hl : Lim d t) (hm : LimM d t) : ∀ n, Lim (huD g f q d n) (t + n) ∧ LimM (huD g f q d n) (t + n)
  | 0 => ⟨hl, hm⟩
  | n + 1 => by
    have ih := hu_lim (g := g) (f := f) (q := q) hl hm n
    by_cases hq : q n = 1 ∨ q n = 2
    · have e : huD g f q d (n + 1) = faultD (huD g f q d n) (faAt f (adN g (huM q n) n : Int)) := if_pos hq
      rw [e]
      exact (near_fault _ _).lim ih.1 ih.2
    · have e : huD g f q d (n + 1) = huD g f q d n := if_neg hq
      rw [e]
      exact ⟨ih.1.mono (by omega), ih.2.mono (by omega)⟩
theorem log_good {vol : Int} {g : Gn} {st : Nat} {ch0 : Int} {d : Dev} {x : Rg} {C : Nat → Nat → Ct} {P : List Pn} (h : LogS (· = Ct.free) vol g st ch0 d x C P) : ∀ c s, c < 2 → s < g.W → C c s ≠ .bad := fun c s hc hs e => by
  by_cases hex : ∃ i, i < P.length ∧ s = (st + i) % g.W
  · obtain ⟨i, hi, rfl⟩ := hex
    have := (h.pcs i P[i] (List.getElem?_eq_getElem hi)).2 c hc
    rw [this] at e
    cases e
  · have := h.rest s hs (fun i hi e => hex ⟨i, hi, e⟩) c hc
    rw [this] at e
    cases e
end Go.Proofs.YteleknojohnlbaaGreat
namespace Go.Proofs.YteleknojohnlbaaGreat
open Go.RowKit
set_option linter.unusedVariables false
set_option maxRecDepth 100000

theorem arr_four : Tryz.prog.underlying 46 = some (.array 4 5) := by kernel_rfl
theorem info_u8 : ∃ i, Tryz.prog.info? 5 = some i := by
  have h : (Tryz.prog.info? 5).isSome = true := by kernel_rfl
  exact Option.isSome_iff_exists.1 h
theorem four_eq (a b c d : Int) (w : World) : (Op.equalIn 10000 46 (.agg #[.int .u8 a, .int .u8 b, .int .u8 c, .int .u8 d]) (.agg #[.int .u8 0, .int .u8 0, .int .u8 0, .int .u8 0])).run Tryz.prog w = .ok ((a == 0) && ((b == 0) && ((c == 0) && (d == 0)))) w := by
  obtain ⟨i, hi⟩ := info_u8
  have u3 : Tryz.prog.underlying 5 = some (.int .u8) := by kernel_rfl
  rw [show (10000 : Nat) = 9999 + 1 from rfl, run_equalIn_array w _ _ _ arr_four hi]
  rw [show List.range 4 = [0, 1, 2, 3] from rfl]
  have hp : ∀ (x : Int) (xs : Array Value) (o : Nat), xs[o]? = some (.int .u8 x) → (part 5 xs o).run Tryz.prog w = .ok (.int .u8 x) w := fun x xs o h => run_part_plain w (by kernel_rfl) h
  have hc : Tryz.prog.cellsOf 5 = 1 := by kernel_rfl
  have hg : ∀ (n : Nat) (x y : Int), (Op.equalIn (n + 1) 5 (.int .u8 x) (.int .u8 y)).run Tryz.prog w = .ok (x == y) w := fun n x y => by
    simp [Op.equalIn, run_underlying u3]
  have he : ∀ x y : Int, (Op.equalIn 9999 5 (.int .u8 x) (.int .u8 y)).run Tryz.prog w = .ok (x == y) w := hg 9998
  simp only [Op.eqItems, Sem.run_bind, hc]
  rw [hp a _ _ rfl]
  simp only [Result.andThen_ok]
  rw [hp 0 _ _ rfl]
  simp only [Result.andThen_ok, he]
  cases a == 0
  · rfl
  simp only [Bool.not_true, Bool.false_eq_true, if_false, Sem.run_bind]
  rw [hp b _ _ rfl]
  simp only [Result.andThen_ok]
  rw [hp 0 _ _ rfl]
  simp only [Result.andThen_ok, he]
  cases b == 0
  · rfl
  simp only [Bool.not_true, Bool.false_eq_true, if_false, Sem.run_bind]
  rw [hp c _ _ rfl]
  simp only [Result.andThen_ok]
  rw [hp 0 _ _ rfl]
  simp only [Result.andThen_ok, he]
  cases c == 0
  · rfl
  simp only [Bool.not_true, Bool.false_eq_true, if_false, Sem.run_bind]
  rw [hp d _ _ rfl]
  simp only [Result.andThen_ok]
  rw [hp 0 _ _ rfl]
  simp only [Result.andThen_ok, he]
  cases d == 0
  · rfl
  rfl
end Go.Proofs.YteleknojohnlbaaGreat
