/- What runs come to, in plain words: steps behind one another. -/
import Derived.Test.YtnpejnjigaalfaaDoorStepSpec
import Derived.Test.YtnpejnjigaalfaaDoorCodeMore
namespace Go.Proofs.YtnpejnjigaalfaaDoor
open Go.ChangeShapes Go.WideShapes Go.ChangeAt Go.RowKit
set_option linter.unusedVariables false
set_option linter.unusedSimpArgs false
/-- Behind a step, wherever the place is. -/
def stepY (n : Nat) (f : Nat → Int) (s : St) : St := if s.en = true then s else if s.at_ < 0 then s.stop 2 else stepZ n f s
/-- Behind so many. -/
def itY (n : Nat) (f : Nat → Int) (s : St) : Nat → St
  | 0 => s
  | k + 1 => stepY n f (itY n f s k)
/-- How many of these were done. -/
def cntY (n : Nat) (f : Nat → Int) (s : St) : Nat → Nat
  | 0 => 0
  | k + 1 => cntY n f s k + (if (itY n f s k).en = true then 0 else 1)
theorem stepY_ended {n : Nat} {f : Nat → Int} {s : St} (h : s.en = true) : stepY n f s = s := by unfold stepY; rw [if_pos h]
theorem itY_ended {n : Nat} {f : Nat → Int} {s : St} {k : Nat} (h : (itY n f s k).en = true) (m : Nat) : itY n f s (k + m) = itY n f s k ∧ cntY n f s (k + m) = cntY n f s k := by
  induction m with
  | zero => exact ⟨rfl, rfl⟩
  | succ m ih =>
    obtain ⟨h1, h2⟩ := ih
    constructor
    · show stepY n f (itY n f s (k + m)) = _
      rw [h1]; exact stepY_ended h
    · show cntY n f s (k + m) + (if (itY n f s (k + m)).en = true then 0 else 1) = _
      rw [h1, if_pos h, h2, Nat.add_zero]
theorem cntY_le (n : Nat) (f : Nat → Int) (s : St) (k : Nat) : cntY n f s k ≤ k := by
  induction k with
  | zero => exact Nat.le_refl _
  | succ k ih => show cntY n f s k + _ ≤ k + 1; split <;> omega
/-- If it hasn't ended, all were done; and it hadn't before. -/
theorem cntY_going {n : Nat} {f : Nat → Int} {s : St} : ∀ {k : Nat}, (itY n f s k).en = false → cntY n f s k = k ∧ ∀ j, j ≤ k → (itY n f s j).en = false := by
  intro k
  induction k with
  | zero => exact fun h => ⟨rfl, fun j hj => by obtain rfl : j = 0 := (by omega); exact h⟩
  | succ k ih =>
    intro h
    have h0 : (itY n f s k).en = false := by
      cases hk : (itY n f s k).en
      · rfl
      · have := (itY_ended hk 1).1; rw [this, hk] at h; cases h
    obtain ⟨i1, i2⟩ := ih h0
    refine ⟨?_, fun j hj => ?_⟩
    · show cntY n f s k + _ = k + 1
      rw [h0, i1]; rfl
    · rcases (by omega : j ≤ k ∨ j = k + 1) with e | rfl
      · exact i2 j e
      · exact h
/-- Where it hadn't ended before, all were done. -/
theorem cntY_all {n : Nat} {f : Nat → Int} {s : St} {k : Nat} (h : ∀ j, j < k → (itY n f s j).en = false) : cntY n f s k = k := by
  cases k with
  | zero => rfl
  | succ k =>
    show cntY n f s k + _ = k + 1
    rw [h k (by omega), (cntY_going (h k (by omega))).1]; rfl
theorem itY_add (n : Nat) (f : Nat → Int) (s : St) (a b : Nat) : itY n f (itY n f s a) b = itY n f s (a + b) ∧ cntY n f s a + cntY n f (itY n f s a) b = cntY n f s (a + b) := by
  induction b with
  | zero => exact ⟨rfl, rfl⟩
  | succ b ih =>
    obtain ⟨h1, h2⟩ := ih
    constructor
    · show stepY n f (itY n f (itY n f s a) b) = stepY n f (itY n f s (a + b))
      rw [h1]
    · show cntY n f s a + (cntY n f (itY n f s a) b + (if (itY n f (itY n f s a) b).en = true then 0 else 1)) = cntY n f s (a + b) + (if (itY n f s (a + b)).en = true then 0 else 1)
      rw [h1, ← h2, Nat.add_assoc]
/-- The numbers are in their ranges. -/
structure Fit (N : Nat) (s : St) : Prop where
  r0 : s.r 0 = 0
  r : ∀ j, 0 ≤ s.r j ∧ s.r j < 4294967296
  at_ : -1073741824 ≤ s.at_ ∧ s.at_ ≤ 1073741824
  bf : ∀ k, k < s.bn → 0 ≤ s.bf k ∧ s.bf k ≤ 1073741824
  bn : s.bn ≤ N
  mn : s.mn ≤ 2000
  inn : s.inn ≤ 1000
  on_ : s.on_ ≤ 6000
  wt : (Lit.int .i64 s.wt).wf = true
  cd : 0 ≤ s.cd ∧ s.cd < 4294967296
  ft : (Lit.int .i64 s.ft).wf = true
  mf : ∀ j, 0 ≤ s.mf j ∧ s.mf j < 256
  inf : ∀ j, 0 ≤ s.inf j ∧ s.inf j < 256
theorem Fit.small {N : Nat} {s : St} (h : Fit N s) (hN : N ≤ 4000) (h0 : 0 ≤ s.at_) : Small s :=
  ⟨⟨h.r0, h.r⟩, ⟨h0, h.at_.2⟩, ⟨Nat.le_trans h.bn hN, h.mn, h.inn, h.on_⟩, h.wt, h.cd, h.ft⟩
theorem Fit.up {N M : Nat} {s : St} (h : Fit N s) (hN : N ≤ M) : Fit M s := { h with bn := Nat.le_trans h.bn hN }
theorem wf_small (k : Int) (h0 : 0 ≤ k) (h1 : k ≤ 1000) : (Lit.int .i64 k).wf = true := by simp [Lit.wf, IntKind.min, IntKind.max, IntKind.signed, IntKind.bits]; omega
theorem Fit.stop {N : Nat} {s : St} (h : Fit N s) (k : Int) (h0 : 0 ≤ k) (h1 : k ≤ 1000) : Fit N (s.stop k) :=
  ⟨h.r0, h.r, h.at_, h.bf, h.bn, h.mn, h.inn, h.on_, h.wt, h.cd, wf_small k h0 h1, h.mf, h.inf⟩
theorem setR_bd {r : Nat → Int} (hr : ∀ j, 0 ≤ r j ∧ r j < 4294967296) (a v : Int) (hv : 0 ≤ v ∧ v < 4294967296) : ∀ j, 0 ≤ setR r a v j ∧ setR r a v j < 4294967296 := by
  intro j
  unfold setR
  split
  · omega
  · split
    · exact hv
    · exact hr j
theorem Fit.go {N : Nat} {s : St} (h : Fit N s) (p : Int) (hp : -1073741824 ≤ p ∧ p ≤ 1073741824) : Fit N { s with at_ := p } :=
  ⟨h.r0, h.r, hp, h.bf, h.bn, h.mn, h.inn, h.on_, h.wt, h.cd, h.ft, h.mf, h.inf⟩
theorem Fit.set {N : Nat} {s : St} (h : Fit N s) (a v : Int) (hv : 0 ≤ v ∧ v < 4294967296) : Fit N { s with r := setR s.r a v } :=
  ⟨rfl, setR_bd h.r a v hv, h.at_, h.bf, h.bn, h.mn, h.inn, h.on_, h.wt, h.cd, h.ft, h.mf, h.inf⟩
theorem doZ_bd (op imm : Int) (b c : Nat) (hb : b < 4294967296) (hc : c < 4294967296) (hi : op = 10 → 0 ≤ imm ∧ imm ≤ 65535) : 0 ≤ doZ op imm b c ∧ doZ op imm b c < 4294967296 := by
  have q : ∀ how, ((bw how b c : Nat) : Int) < 4294967296 := fun how => by have := bw_lt how b c 0 hb hc; simp only [Nat.shiftRight_zero] at this; omega
  unfold doZ
  split
  · omega
  split
  · omega
  split
  · exact ⟨by omega, q 0⟩
  split
  · exact ⟨by omega, q 1⟩
  split
  · exact ⟨by omega, q 2⟩
  split
  · split <;> omega
  split
  · omega
  split
  · omega
  split
  · omega
  split
  · rename_i e
    have h := hi e
    have := bw_lt 1 b imm.toNat 0 hb (by omega)
    simp only [Nat.shiftRight_zero] at this
    omega
  · omega
theorem saved_bd {f : Nat → Int} (hf : ∀ i, 0 ≤ f i ∧ f i < 256) (x : Int) (at_ : Int) (wide : Bool) : ∀ i, 0 ≤ savedF f at_ x wide i ∧ savedF f at_ x wide i < 256 := by
  intro i
  unfold savedF putK
  have hi := hf i
  generalize (if wide = true then 4 else 1) = m
  split
  · have := Int.emod_nonneg (x / 256 ^ (i - (at_ - 65536).toNat)) (show (256 : Int) ≠ 0 by decide)
    have := Int.emod_lt_of_pos (x / 256 ^ (i - (at_ - 65536).toNat)) (show (0 : Int) < 256 by decide)
    omega
  · exact hi
theorem fit_op {N : Nat} {s : St} (h : Fit N s) (h0 : 0 ≤ s.at_) (h1 : s.at_ ≤ 1000) (op a b c i : Int) (hr : rightB op a b c i = true) : Fit (N + 1) (opZ op a b c i s) := by
  have hi : (-8388608 ≤ i ∧ i ≤ 8388607) ∧ (op = 10 → 0 ≤ i ∧ i ≤ 65535) := by
    have ho : 0 ≤ op ∧ op < 26 := by
      have g := hr
      simp only [rightB, Bool.and_eq_true, decide_eq_true_eq] at g
      exact g.1.1.1.1
    rcases (by omega : (1 ≤ op ∧ op ≤ 7) ∨ (op = 8 ∨ 11 ≤ op ∧ op ≤ 14) ∨ op = 10 ∨ (15 ≤ op ∧ op ≤ 18) ∨ op = 9 ∨ (op = 0 ∨ op = 22 ∨ op = 23) ∨ (op = 19 ∨ op = 20) ∨ (op = 21 ∨ op = 24 ∨ op = 25)) with e | e | rfl | e | rfl | e | e | e
    · rw [right_three _ _ _ _ _ e, decide_eq_true_eq] at hr; omega
    · rw [right_near _ _ _ _ _ e, decide_eq_true_eq] at hr; omega
    · rw [right_ori, decide_eq_true_eq] at hr; omega
    · rw [right_branch _ _ _ _ _ e, decide_eq_true_eq] at hr; omega
    · rw [right_high, decide_eq_true_eq] at hr; omega
    · rw [right_one _ _ _ _ _ e, decide_eq_true_eq] at hr; omega
    · rw [right_far _ _ _ _ _ e, decide_eq_true_eq] at hr; omega
    · rw [right_no _ _ _ _ _ e, decide_eq_true_eq] at hr; omega
  have hN : N ≤ N + 1 := Nat.le_succ N
  have p1 : -1073741824 ≤ s.at_ + 1 ∧ s.at_ + 1 ≤ 1073741824 := by omega
  have p2 : -1073741824 ≤ s.at_ + 1 + i ∧ s.at_ + 1 + i ≤ 1073741824 := by omega
  unfold opZ
  by_cases e0 : op = 0
  · rw [if_pos e0]; exact ⟨h.r0, h.r, h.at_, h.bf, Nat.le_trans h.bn hN, h.mn, h.inn, h.on_, h.wt, h.r _, wf_small 0 (by omega) (by omega), h.mf, h.inf⟩
  rw [if_neg e0]
  by_cases e25 : op = 25
  · rw [if_pos e25]; exact (h.stop 1 (by omega) (by omega)).up hN
  rw [if_neg e25]
  by_cases e21 : op = 21
  · rw [if_pos e21]
    by_cases g : s.bn = 0
    · rw [if_pos g]; exact (h.stop 5 (by omega) (by omega)).up hN
    · rw [if_neg g]
      have q := h.bf (s.bn - 1) (by omega)
      exact ⟨h.r0, h.r, ⟨by simp only []; omega, by simp only []; omega⟩, fun k hk => h.bf k (by simp only [] at hk; omega), by have := h.bn; simp only []; omega, h.mn, h.inn, h.on_, h.wt, h.cd, h.ft, h.mf, h.inf⟩
  rw [if_neg e21]
  by_cases e11 : op = 11 ∨ op = 13
  · rw [if_pos e11]
    by_cases g : okB s.mn (whereZ s b i) (op == 11) = true
    · rw [if_pos g]; exact ((h.set a _ (load_bd s.mf h.mf _ _)).go _ p1).up hN
    · rw [if_neg g]; exact (h.stop 3 (by omega) (by omega)).up hN
  rw [if_neg e11]
  by_cases e12 : op = 12 ∨ op = 14
  · rw [if_pos e12]
    by_cases g : saveB s.mn (whereZ s b i) (op == 12) s.wt = true
    · rw [if_pos g]; exact ⟨h.r0, h.r, p1, h.bf, Nat.le_trans h.bn hN, h.mn, h.inn, h.on_, h.wt, h.cd, h.ft, saved_bd h.mf _ _ _, h.inf⟩
    · rw [if_neg g]; exact (h.stop 4 (by omega) (by omega)).up hN
  rw [if_neg e12]
  by_cases e22 : op = 22
  · rw [if_pos e22]
    by_cases g : s.inn = 0
    · rw [if_pos g]; exact ((h.set a 4294967295 (by omega)).go _ p1).up hN
    · rw [if_neg g]
      have h' := (h.set a (s.inf 0) (by have := h.inf 0; omega)).go _ p1
      exact ⟨h'.r0, h'.r, h'.at_, h'.bf, Nat.le_trans h.bn hN, h.mn, by have := h.inn; simp only []; omega, h.on_, h.wt, h.cd, h.ft, h.mf, fun j => h.inf (j + 1)⟩
  rw [if_neg e22]
  by_cases e23 : op = 23
  · rw [if_pos e23]
    by_cases g : s.on_ < 4096
    · rw [if_pos g]; exact ⟨h.r0, h.r, p1, h.bf, Nat.le_trans h.bn hN, h.mn, h.inn, by simp only []; omega, h.wt, h.cd, h.ft, h.mf, h.inf⟩
    · rw [if_neg g]; exact (h.go _ p1).up hN
  rw [if_neg e23]
  by_cases e24 : op = 24
  · rw [if_pos e24]; exact (h.go _ p1).up hN
  rw [if_neg e24]
  by_cases e19 : op = 19
  · rw [if_pos e19]; exact (h.go _ p2).up hN
  rw [if_neg e19]
  by_cases e20 : op = 20
  · rw [if_pos e20]
    refine ⟨h.r0, h.r, p2, fun k hk => ?_, by have := h.bn; simp only []; omega, h.mn, h.inn, h.on_, h.wt, h.cd, h.ft, h.mf, h.inf⟩
    simp only [] at hk ⊢
    by_cases g : k = s.bn
    · rw [if_pos g]; omega
    · rw [if_neg g]; exact h.bf k (by omega)
  rw [if_neg e20]
  by_cases e15 : 15 ≤ op ∧ op ≤ 18
  · rw [if_pos e15]
    refine (h.go _ ?_).up hN
    by_cases g : takenB op (s.r a.toNat) (s.r b.toNat) = true
    · rw [if_pos g]; omega
    · rw [if_neg g]; omega
  · rw [if_neg e15]
    have hb := h.r b.toNat
    have hc := h.r c.toNat
    exact ((h.set a _ (doZ_bd op i _ _ (by omega) (by omega) hi.2)).go _ p1).up hN
theorem fit_step {N n : Nat} {f : Nat → Int} {s : St} (h : Fit N s) (hn : n ≤ 1000) : Fit (N + 1) (stepY n f s) := by
  have hN : N ≤ N + 1 := Nat.le_succ N
  unfold stepY
  split
  · exact h.up hN
  split
  · exact (h.stop 2 (by omega) (by omega)).up hN
  unfold stepZ
  split
  · exact h.up hN
  split
  · exact (h.stop 2 (by omega) (by omega)).up hN
  split
  · rename_i hk
    exact fit_op h (by omega) (by omega) _ _ _ _ _ (ok_put _ hk).1
  · exact (h.stop 2 (by omega) (by omega)).up hN
theorem fit_it {N n : Nat} {f : Nat → Int} {s : St} (h : Fit N s) (hn : n ≤ 1000) (k : Nat) : Fit (N + k) (itY n f s k) := by
  induction k with
  | zero => exact h
  | succ k ih => exact fit_step ih hn
theorem fit_new (en : Int) (dn : Nat) (df : Nat → Int) (wt : Int) (mo n : Nat) (f : Nat → Int) (he : 0 ≤ en ∧ en ≤ 1048576) (hw : 0 ≤ wt ∧ wt ≤ 1048576) (hd : dn + mo ≤ 2000) (hn : n ≤ 1000) (h1 : ∀ i, 0 ≤ df i ∧ df i < 256) (h2 : ∀ i, 0 ≤ f i ∧ f i < 256) : Fit 0 (newZ en dn df wt mo n f) := by
  refine ⟨rfl, fun j => ⟨by simp [newZ], by simp [newZ]⟩, ⟨by simp [newZ]; omega, by simp [newZ]; omega⟩, fun k hk => by simp [newZ] at hk, Nat.le_refl _, by simpa [newZ] using hd, by simpa [newZ] using hn, by simp [newZ], ?_, ⟨by simp [newZ], by simp [newZ]⟩, by simp [newZ, Lit.wf, IntKind.min, IntKind.max, IntKind.signed, IntKind.bits], fun j => ?_, by simpa [newZ] using h2⟩
  · simp [newZ, Lit.wf, IntKind.min, IntKind.max, IntKind.signed, IntKind.bits]; omega
  · simp only [newZ]
    split
    · exact h1 j
    · omega
/-- Till it ends, there is no number and no fault; if it ended with a fault, there is no number. -/
def Calmly (s : St) : Prop := (s.en = false → s.cd = 0 ∧ s.ft = 0) ∧ (s.ft = 0 ∨ s.cd = 0)
theorem calmly_op {s : St} (hs : ∀ k, Calmly (s.stop k)) (hg : ∀ t : St, t.cd = s.cd → t.ft = s.ft → Calmly t) (op a b c i : Int) : Calmly (opZ op a b c i s) := by
  unfold opZ
  by_cases e0 : op = 0
  · rw [if_pos e0]; exact ⟨fun e => by simp at e, .inl rfl⟩
  rw [if_neg e0]
  by_cases e25 : op = 25
  · rw [if_pos e25]; exact hs 1
  rw [if_neg e25]
  by_cases e21 : op = 21
  · rw [if_pos e21]
    by_cases g : s.bn = 0
    · rw [if_pos g]; exact hs 5
    · rw [if_neg g]; exact hg _ rfl rfl
  rw [if_neg e21]
  by_cases e11 : op = 11 ∨ op = 13
  · rw [if_pos e11]
    by_cases g : okB s.mn (whereZ s b i) (op == 11) = true
    · rw [if_pos g]; exact hg _ rfl rfl
    · rw [if_neg g]; exact hs 3
  rw [if_neg e11]
  by_cases e12 : op = 12 ∨ op = 14
  · rw [if_pos e12]
    by_cases g : saveB s.mn (whereZ s b i) (op == 12) s.wt = true
    · rw [if_pos g]; exact hg _ rfl rfl
    · rw [if_neg g]; exact hs 4
  rw [if_neg e12]
  by_cases e22 : op = 22
  · rw [if_pos e22]
    by_cases g : s.inn = 0
    · rw [if_pos g]; exact hg _ rfl rfl
    · rw [if_neg g]; exact hg _ rfl rfl
  rw [if_neg e22]
  by_cases e23 : op = 23
  · rw [if_pos e23]
    by_cases g : s.on_ < 4096
    · rw [if_pos g]; exact hg _ rfl rfl
    · rw [if_neg g]; exact hg _ rfl rfl
  rw [if_neg e23]
  by_cases e24 : op = 24
  · rw [if_pos e24]; exact hg _ rfl rfl
  rw [if_neg e24]
  by_cases e19 : op = 19
  · rw [if_pos e19]; exact hg _ rfl rfl
  rw [if_neg e19]
  by_cases e20 : op = 20
  · rw [if_pos e20]; exact hg _ rfl rfl
  rw [if_neg e20]
  by_cases e15 : 15 ≤ op ∧ op ≤ 18
  · rw [if_pos e15]; exact hg _ rfl rfl
  · rw [if_neg e15]; exact hg _ rfl rfl
theorem calmly_step {n : Nat} {f : Nat → Int} {s : St} (h : Calmly s) : Calmly (stepY n f s) := by
  unfold stepY
  split
  · exact h
  rename_i he
  have he' : s.en = false := by simpa using he
  obtain ⟨h1, h2⟩ := h.1 he'
  have hs : ∀ k, Calmly (s.stop k) := fun k => ⟨fun e => by simp [St.stop] at e, .inr h1⟩
  have hg : ∀ t : St, t.cd = s.cd → t.ft = s.ft → Calmly t := fun t e1 e2 => ⟨fun _ => ⟨e1.trans h1, e2.trans h2⟩, .inl (e2.trans h2)⟩
  split
  · exact hs 2
  unfold stepZ
  split
  · exact h
  split
  · exact hs 2
  split
  · exact calmly_op hs hg _ _ _ _ _
  · exact hs 2
theorem calmly_it {n : Nat} {f : Nat → Int} {s : St} (h : Calmly s) (k : Nat) : Calmly (itY n f s k) := by
  induction k with
  | zero => exact h
  | succ k ih => exact calmly_step ih
theorem calmly_new (en : Int) (dn : Nat) (df : Nat → Int) (wt : Int) (mo n : Nat) (f : Nat → Int) : Calmly (newZ en dn df wt mo n f) := ⟨fun _ => ⟨rfl, rfl⟩, .inl rfl⟩
end Go.Proofs.YtnpejnjigaalfaaDoor
