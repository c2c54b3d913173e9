/-
  DiskRots, walked.
-/
import Derived.Test.YtkbhpkpacojpcaaDskL4
namespace Go.Proofs.Ytkbhpkpacojpcaa
open Go.RowKit
set_option linter.unusedVariables false

/-! ### in plain words -/
structure Calm (d : Dev) : Prop where
  n : d.n = 20
  dead : d.dead = false
  armed : d.armed = false
  drops : ∀ a, d.drops a = 0
  miss : ∀ a, d.miss a = []
theorem Calm.of {d d' : Dev} (h : Calm d) (e : d'.n = d.n ∧ d'.dead = d.dead ∧ d'.armed = d.armed ∧ d'.drops = d.drops ∧ d'.miss = d.miss) : Calm d' :=
  ⟨e.1.trans h.n, e.2.1.trans h.dead, e.2.2.1.trans h.armed, fun a => by rw [e.2.2.2.1]; exact h.drops a, fun a => by rw [e.2.2.2.2]; exact h.miss a⟩
theorem Calm.un {d : Dev} (h : Calm d) : Un d := ⟨h.n, h.dead, h.armed⟩
theorem calm_fin {d : Dev} (L : List Wt) (h : Calm d) : Calm (finAll d L) := by
  obtain ⟨_, s2, s3, s4, s5, _⟩ := finAll_same L d
  exact h.of ⟨finAll_n _ _, s4, s5, s2, s3⟩
theorem Calm.open' {d : Dev} (h : Calm d) {k : Nat} (hk : k < 20) : openE d (k : Int) = 0 := by
  unfold openE hasB
  rw [h.dead, h.n]
  simp
  omega
theorem calm_read {d : Dev} {a : Int} (h : Calm d) : Calm (readD d a) := by
  unfold readD
  split
  · exact h.of ⟨rfl, rfl, rfl, rfl, rfl⟩
  · exact h
theorem wr1_calm {d : Dev} (h : Calm d) : wr1 d = { d with ops := d.ops + 1 } := by unfold wr1; rw [h.un.dies.2]
theorem calm_write_eq {d : Dev} {a : Int} {z : Nat → Nat} (h : Calm d) (ho : openE d a = 0) : writeE d a 256 = 0 ∧ writeD d a 256 z = { d with ops := d.ops + 1, W := d.W ++ [⟨a.toNat, z⟩] } := by
  obtain ⟨_, k, rfl, hk⟩ := openE_ok ho
  rw [Int.toNat_natCast]
  have hc : aimC (wr1 d) k = true := by rw [wr1_calm h]; exact decide_eq_true (by show ¬ 0 < d.drops _; rw [h.drops]; omega)
  have e1 : ¬ 0 < d.drops k := by rw [h.drops]; omega
  have e2 := h.miss k
  have hd : aimD (wr1 d) k = wr1 d ∧ aimT (wr1 d) k = k := by
    rw [wr1_calm h]
    unfold aimD aimT
    exact ⟨by rw [if_neg e1]; show (match d.miss k with | [] => _ | t :: r => _) = _; rw [e2], by rw [if_neg e1]; show (match d.miss k with | [] => _ | t :: r => _) = _; rw [e2]⟩
  obtain ⟨e3, e4⟩ := write_goes (z := z) ho h.un.dies.1 hc
  rw [hd.1, hd.2, wr1_calm h] at e4
  exact ⟨e3, e4⟩
theorem calm_write {d : Dev} {a : Int} {n : Nat} {z : Nat → Nat} (h : Calm d) : Calm (writeD d a n z) ∧ (writeD d a n z).lost = d.lost := by
  by_cases ho : openE d a = 0
  · by_cases hn : n = 256
    · subst hn
      rw [(calm_write_eq h ho).2]
      exact ⟨h.of ⟨rfl, rfl, rfl, rfl, rfl⟩, rfl⟩
    · have : writeD d a n z = d := by unfold writeD; rw [if_neg (fun q => hn q.2)]
      rw [this]; exact ⟨h, rfl⟩
  · have : writeD d a n z = d := by unfold writeD; rw [if_neg (fun q => ho q.1)]
    rw [this]; exact ⟨h, rfl⟩
theorem calm_flush {d : Dev} (h : Calm d) : Calm (flushD d) := by
  rw [flush_un h.un]
  exact (calm_fin d.W h).of ⟨rfl, rfl, rfl, rfl, rfl⟩
theorem calm_does {d : Dev} {x : OpD} (h : Calm d) (hl : ∀ a, d.lost a = false) (hx : x.kd < 2) : Calm (doesD d x) ∧ ∀ a, (doesD d x).lost a = false := by
  unfold doesD
  split
  · exact ⟨(calm_write h).1, fun a => by rw [(calm_write h).2]; exact hl a⟩
  · split
    · refine ⟨calm_flush h, fun a => ?_⟩
      rw [flush_un h.un]
      show (finAll d d.W).lost a = false
      rw [(finAll_has d a d.W).2, hl, Bool.and_false]
    · rw [if_neg (by omega), if_neg (by omega), if_neg (by omega)]
      exact ⟨h, hl⟩
theorem lastW_ofS (a : Nat) : ∀ W, lastW (ofS W a) a = lastW W a := by
  refine snocInd rfl fun L x ih => ?_
  rw [ofS_snoc, lastW_snoc]
  by_cases q : x.pl = a
  · rw [if_pos q, if_pos q, lastW_snoc, if_pos q]
  · rw [if_neg q, if_neg q, ih]
theorem lastW_offS (a : Nat) (W : List Wt) : lastW (offS W a) a = none := lastW_none fun x hx => by
  have := (List.mem_filter.1 hx).2
  simpa using this
theorem off_twice (a : Nat) (W : List Wt) : ofS (offS W a) a = [] ∧ offS (offS W a) a = offS W a := by
  unfold ofS offS
  refine ⟨List.filter_eq_nil_iff.2 fun x hx => ?_, ?_⟩
  · have := (List.mem_filter.1 hx).2
    simpa using this
  · rw [List.filter_filter]
    simp
/-- What settles has what was read. -/
theorem settle_has (d : Dev) (k : Nat) : (settleD d k).has k = readZ d (k : Int) ∧ (settleD d k).W = offS d.W k ∧ (d.lost k = false → (settleD d k).lost k = false) := by
  obtain ⟨h1, h2⟩ := finAll_has d k (ofS d.W k)
  rw [lastW_ofS] at h1 h2
  refine ⟨?_, rfl, fun e => ?_⟩
  · unfold readZ
    rw [Int.toNat_natCast]
    exact h1
  · show (finAll d (ofS d.W k)).lost k = false
    rw [h2, e, Bool.and_false]
theorem calm_settle {d : Dev} {k : Nat} (h : Calm d) : Calm (settleD d k) := (calm_fin (ofS d.W k) h).of ⟨rfl, rfl, rfl, rfl, rfl⟩
theorem rotZ_twice (z : Nat → Nat) (off : Nat) (m : Nat → Nat) (n : Nat) : rotZ (rotZ z off m n) off m n = z := funext fun c => by
  unfold rotZ
  by_cases q : off ≤ c ∧ c < off + n
  · rw [if_pos q, if_pos q, Nat.xor_assoc, Nat.xor_self, Nat.xor_zero]
  · rw [if_neg q, if_neg q]
/-- The same mask once more. -/
theorem rot_twice {d : Dev} {f : Fa} {k : Nat} (h : Calm d) (hl : d.lost k = false) (hp : f.pl = (k : Int)) (hk : k < 20) : Calm (rotD (rotD d f) f) ∧ Calm (rotD d f) ∧ readE (rotD (rotD d f) f) (k : Int) = 0 ∧ readZ (rotD (rotD d f) f) (k : Int) = readZ d (k : Int) := by
  by_cases hb : f.off < 0 ∨ 256 ≤ f.off
  · have e : rotD d f = d := by unfold rotD; rw [if_pos hb]
    rw [e, e]
    refine ⟨h, h, ?_, rfl⟩
    unfold readE
    rw [if_pos (h.open' hk), Int.toNat_natCast, hl, Bool.and_false]
    rfl
  · have e : ∀ d, rotD d f = rotAt (settleD d k) k f.off.toNat (maskOf f) (min 4 (256 - f.off.toNat)) := fun d => by unfold rotD; rw [if_neg hb, hp, Int.toNat_natCast]
    obtain ⟨s1, s2, s3⟩ := settle_has d k
    obtain ⟨d1, hd1⟩ : ∃ d1, d1 = rotD d f := ⟨_, rfl⟩
    have h1 : Calm d1 := by rw [hd1, e]; exact (calm_settle h).of ⟨rfl, rfl, rfl, rfl, rfl⟩
    have w1 : d1.W = offS d.W k := by rw [hd1, e]; exact s2
    have l1 : d1.lost k = false := by rw [hd1, e]; exact s3 hl
    have z1 : d1.has k = rotZ (readZ d (k : Int)) f.off.toNat (maskOf f) (min 4 (256 - f.off.toNat)) := by rw [hd1, e]; show up (settleD d k).has k _ k = _; rw [up_same, s1]
    obtain ⟨t1, t2, t3⟩ := settle_has d1 k
    have r1 : readZ d1 (k : Int) = d1.has k := by unfold readZ; rw [Int.toNat_natCast, w1, lastW_offS]
    rw [← hd1]
    have h2 : Calm (rotD d1 f) := by rw [e]; exact (calm_settle h1).of ⟨rfl, rfl, rfl, rfl, rfl⟩
    have w2 : (rotD d1 f).W = offS d.W k := by rw [e]; show offS d1.W k = _; rw [w1, (off_twice k d.W).2]
    refine ⟨h2, h1, ?_, ?_⟩
    · unfold readE
      rw [if_pos (h2.open' hk), Int.toNat_natCast, show (rotD d1 f).lost k = false by rw [e]; exact t3 l1, Bool.and_false]
      rfl
    · unfold readZ
      rw [Int.toNat_natCast, w2, lastW_offS]
      show (rotD d1 f).has k = _
      rw [e]
      show up (settleD d1 k).has k (rotZ ((settleD d1 k).has k) _ _ _) k = _
      rw [up_same, t1, r1, z1, rotZ_twice]
      unfold readZ
      rw [Int.toNat_natCast]
theorem fault_is {d : Dev} {f : Fa} (h : Calm d) (hp : 0 ≤ f.pl ∧ f.pl < 20) : (f.kind = 1 → faultD d f = rotD d f ∧ faultE d f = rotE f) ∧ (f.kind = 3 → faultD d f = loseD d f.pl.toNat ∧ faultE d f = 0) := by
  have hb : hasB d f.pl = true := decide_eq_true ⟨hp.1, by rw [h.n]; exact hp.2⟩
  unfold faultD faultE
  rw [hb]
  refine ⟨fun e => ?_, fun e => ?_⟩
  · rw [if_pos rfl, if_pos rfl, if_pos e, if_pos e]
    exact ⟨rfl, rfl⟩
  · rw [if_pos rfl, if_pos rfl]
    simp [e]
theorem lose_read {d : Dev} {k : Nat} (h : Calm d) (hk : k < 20) : Calm (loseD d k) ∧ readE (loseD d k) (k : Int) = 20 := by
  have hc : Calm (loseD d k) := (calm_settle h).of ⟨rfl, rfl, rfl, rfl, rfl⟩
  refine ⟨hc, ?_⟩
  unfold readE
  rw [if_pos (hc.open' hk), Int.toNat_natCast]
  show (if ((lastW (offS d.W k) k).isNone && up (settleD d k).lost k true k) = true then (20 : Int) else 0) = 20
  rw [lastW_offS, up_same]
  rfl
theorem again_has {d : Dev} {k b : Nat} (h : Calm d) (hk : k < 20) : hasP (flushD (writeD d (k : Int) 256 (fun _ => b))) (k : Int) b = true := by
  obtain ⟨e1, e2⟩ := calm_write_eq (z := fun _ => b) h (h.open' hk)
  have hc := (calm_write (a := (k : Int)) (n := 256) (z := fun _ => b) h).1
  have hf := calm_flush hc
  obtain ⟨f1, f2⟩ := finAll_has (writeD d (k : Int) 256 (fun _ => b)) k (writeD d (k : Int) 256 (fun _ => b)).W
  have hw : lastW (writeD d (k : Int) 256 (fun _ => b)).W k = some ⟨k, fun _ => b⟩ := by
    rw [e2, Int.toNat_natCast]
    show lastW (d.W ++ [_]) k = _
    rw [lastW_snoc, if_pos rfl]
  rw [hw] at f1 f2
  refine hasP_yes ?_ (fun c hc2 => ?_)
  · unfold readE
    rw [if_pos (hf.open' hk), Int.toNat_natCast, flush_un hc.un]
    show (if ((lastW [] k).isNone && (finAll _ _).lost k) = true then (20 : Int) else 0) = 0
    rw [f2]
    rfl
  · unfold readZ
    rw [Int.toNat_natCast, flush_un hc.un]
    show (match lastW [] k with | some x => x.z | none => (finAll _ _).has k) c = b
    rw [lastW_nil]
    show (finAll _ _).has k c = b
    rw [f1]
theorem calm_zero : Calm (dev0 20) := ⟨rfl, rfl, rfl, fun _ => rfl, fun _ => rfl⟩
#print axioms again_has
#print axioms rot_twice
end Go.Proofs.Ytkbhpkpacojpcaa
