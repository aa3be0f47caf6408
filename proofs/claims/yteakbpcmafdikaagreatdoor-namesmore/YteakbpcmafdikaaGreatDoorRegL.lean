/- Regions that draw their order: a condition on the world that holds till the last operation, which may end it. No condition. -/
import Derived.Deep.RegionHeld3
import Derived.Lib.SmallJoins
import Derived.Test.YteakbpcmafdikaaGreatDoorNmBase
namespace Go.Proofs.YteakbpcmafdikaaGreatDoor
open Go.RowKit
set_option linter.unusedVariables false
section
variable {P : Program} {md : Region.Mode} {ops : Array Oper} {Q : Exit → Act → World → Prop} {S : World → Prop} {z : Nat}
/-- In whatever order; S holds behind each but number z. -/
def Till (P : Program) (md : Region.Mode) (ops : Array Oper) (Q : Exit → Act → World → Prop) (S : World → Prop) (z : Nat) : Nat → Array Bool → Act → World → Prop
  | 0, l, a, w => Region.ready md ops l = [] ∧ Q .normal a w
  | n + 1, l, a, w => (Region.ready md ops l = [] → Q .normal a w) ∧
    ∀ i ∈ Region.ready md ops l, wpOp P ops Q i (fun b v => (i ≠ z → S v) ∧ Till P md ops Q S z n (l.setIfInBounds i true) b v) a w
theorem till_any : ∀ (n : Nat) (l : Array Bool) (a : Act) (w : World), Till P md ops Q S z n l a w → wpAny P md ops Q n l a w
  | 0, _, _, _, h => h
  | n + 1, l, _, _, h => ⟨h.1, fun i hi => wpOp_mono (fun b v k => till_any n (l.setIfInBounds i true) b v k.2) (h.2 i hi)⟩
/-- One that waits for nobody who may wait for it. -/
theorem not_before {i : Nat} {l : Array Bool} (hi : i ∈ Region.ready md ops l) {o : Oper} (ho : ∀ e ∈ o.after, Region.binds md e = true → l.getD e.on false = true) : ∀ e ∈ o.after, Region.binds md e = true → e.on ≠ i := by
  intro e he hb c
  have h0 := (mem_ready.1 hi).1
  have h1 := ho e he hb
  rw [c] at h1
  have e2 : l.getD i true = l.getD i false := by
    by_cases hl : i < l.size
    · simp [hl]
    · simp [Array.getElem?_eq_none (Nat.le_of_not_lt hl)] at h1
  rw [e2, h1] at h0
  cases h0
/-- Number z waits for number i. -/
def waitsB (md : Region.Mode) (ops : Array Oper) (z i : Nat) : Bool := match ops[z]? with
  | some o => o.after.any fun e => Region.binds md e && e.on == i
  | none => true
theorem till_first {i : Nat} {oi : Oper} {u : Value} (hi : ops[i]? = some oi) (hz : waitsB md ops z i = true) (hsel : ∀ (j : Nat) (o : Oper) cs b, ops[j]? = some o → o.op ≠ .select cs b) (hQ : ∀ c a w, Q (.panic c) (a.put oi.dst u) w → Q (.panic c) a w) (n : Nat) :
    ∀ (l : Array Bool) (a : Act) (w : World), (∀ j oj, ops[j]? = some oj → j ≠ i → l.getD j true = false → (∀ e ∈ oj.after, Region.binds md e = true → e.on ≠ i) → oi.apart ops oj = true) →
      i ∈ Region.ready md ops l → YieldsIf P ops S oi u a → S w → Till P md ops Q S z n (l.setIfInBounds i true) (a.put oi.dst u) w → Till P md ops Q S z (n + 1) l a w := by
  induction n with
  | zero =>
    intro l a w _ hr hy hS H
    refine ⟨fun e => absurd hr (by rw [e]; exact List.not_mem_nil), fun j hj => ?_⟩
    by_cases c : j = i
    · rw [c]; exact hy.wpOp hi hS ⟨fun _ => hS, H⟩
    · exact absurd (ready_mono hj c) (by rw [H.1]; exact List.not_mem_nil)
  | succ n ih =>
    intro l a w hf hr hy hS H
    refine ⟨fun e => absurd hr (by rw [e]; exact List.not_mem_nil), fun j hj => ?_⟩
    by_cases c : j = i
    · rw [c]; exact hy.wpOp hi hS ⟨fun _ => hS, H⟩
    · obtain ⟨hu, oj, hoj, hall⟩ := mem_ready.1 hj
      have nb := not_before (i := i) hr hall
      have jz : j ≠ z := fun e => by
        subst e
        unfold waitsB at hz
        rw [hoj] at hz
        dsimp only at hz
        rw [Array.any_eq_true'] at hz
        obtain ⟨e, he, hb⟩ := hz
        simp only [Bool.and_eq_true, beq_iff_eq] at hb
        exact nb e he hb.1 hb.2
      have step := wpOp_putIf hoj (hf j oj hoj c hu nb) (fun cs b => hsel i oi cs b hi) (fun cs b => hsel j oj cs b hoj) hQ hy (H.2 j (ready_mono hj c))
      have still : i ∈ Region.ready md ops (l.setIfInBounds j true) := ready_mono hr fun e => c e.symm
      refine wpOp_mono (fun b v k => ⟨fun _ => k.2.1 jz, ih _ b v (fun p op hp hpi hpu hno => hf p op hp hpi ?_ hno) still k.1 (k.2.1 jz) ?_⟩) step
      · by_cases e : j = p
        · rw [← e]; exact hu
        · rw [getD_set_ne true e] at hpu; exact hpu
      · rw [Array.setIfInBounds_comm _ _ c]
        exact k.2.2
/-- Number i is taken first. -/
theorem till_take {i : Nat} {oi : Oper} {u : Value} {n : Nat} {l : Array Bool} {a : Act} {w : World} (hi : ops[i]? = some oi) (hz : waitsB md ops z i = true) (hs : Region.noSelect ops = true) (hf : Region.free md ops l i = true) (hr : (Region.ready md ops l).contains i = true)
    (hQ : ∀ c a w, Q (.panic c) (a.put oi.dst u) w → Q (.panic c) a w) (hy : YieldsIf P ops S oi u a) (hS : S w) (h : Till P md ops Q S z n (l.setIfInBounds i true) (a.put oi.dst u) w) : Till P md ops Q S z (n + 1) l a w :=
  till_first hi hz (Region.noSelect_spec hs) hQ n l a w (Region.free_spec hi hf) (by simpa using hr) hy hS h
/-- One alone may come up. -/
theorem till_one {i : Nat} {o : Oper} {n : Nat} {l : Array Bool} {a : Act} {w : World} (ho : ops[i]? = some o) (hr : Region.ready md ops l = [i])
    (h : ∀ K : Act → World → Prop, Shut (∀ b v, (i ≠ z → S v) → Till P md ops Q S z n (l.setIfInBounds i true) b v → K b v) → if Region.wanted o (yielded ops a.tmps) = true then Oper.wp P o a w K Q else K (a.put o.dst undef) w) : Till P md ops Q S z (n + 1) l a w := by
  refine ⟨fun e => (by rw [hr] at e; cases e), fun j hj => ?_⟩
  rw [hr, List.mem_singleton] at hj
  subst hj
  exact wpOp_step ho fun K hK => h K fun b v h1 h2 => hK b v ⟨h1, h2⟩
theorem till_done {l : Array Bool} {a : Act} {w : World} (hr : Region.ready md ops l = []) (h : Q .normal a w) : ∀ n, Till P md ops Q S z n l a w
  | 0 => ⟨hr, h⟩
  | _ + 1 => ⟨fun _ => h, fun i hi => absurd hi (by rw [hr]; exact List.not_mem_nil)⟩
theorem wp_till {id : Nat} {a : Act} {w : World} (S : World → Prop) (z : Nat) (hm : P.follows .mixedOrders = true) (hS : S w.drew) (h : S w.drew → Till P .any ops Q S z ops.size (Array.replicate ops.size false) a w.drew) : (Code.region id ops true).wp P Q a w :=
  wp_region_any hm (till_any _ _ _ _ (h hS))
end
end Go.Proofs.YteakbpcmafdikaaGreatDoor
