/- When a state is right, and small: exactly, as the document's own answer for layer 6 says. -/
import Derived.Test.YtcibifgbnpcpmaaDoorStateSame
import Derived.Deep.Cut
import Derived.Deep.MidRow
namespace Go.Proofs.YtcibifgbnpcpmaaDoor
open Go.ChangeShapes Go.WideShapes Go.ChangeAt Go.RowKit
set_option linter.unusedVariables false

theorem at_range {w : World} {k : Nat} {cs : Array Value} (h : At w k cs) : w.rangeAt k 0 cs.toList := fun j v hv => by rw [Nat.zero_add]; exact h j v (by simpa using hv)
/-- May a state be? -/
def rightS (at1 : Int) (r0 : Int) (bn1 : Nat) (bf1 : Nat → Int) : Bool := decide (r0 = 0 ∧ 0 ≤ at1 ∧ at1 ≤ 1073741824 ∧ ∀ i, i < bn1 → 0 ≤ bf1 i ∧ bf1 i ≤ 1073741824)
/-- Right, and small? -/
def fewS (at1 : Int) (r0 : Int) (bn1 mn1 in1 on1 : Nat) (bf1 : Nat → Int) : Bool := rightS at1 r0 bn1 bf1 && decide ((bn1 : Int) ≤ 100) && decide ((mn1 : Int) ≤ 2000) && decide ((in1 : Int) ≤ 500) && decide ((on1 : Int) ≤ 5000)
theorem few_facts {at1 r0 : Int} {bn1 mn1 in1 on1 : Nat} {bf1 : Nat → Int} (h : fewS at1 r0 bn1 mn1 in1 on1 bf1 = true) : r0 = 0 ∧ 0 ≤ at1 ∧ at1 ≤ 1073741824 ∧ (∀ i, i < bn1 → 0 ≤ bf1 i ∧ bf1 i ≤ 1073741824) ∧ bn1 ≤ 100 ∧ mn1 ≤ 2000 ∧ in1 ≤ 500 ∧ on1 ≤ 5000 := by
  simp only [fewS, rightS, Bool.and_eq_true, decide_eq_true_eq] at h
  obtain ⟨⟨⟨⟨⟨h0, h1, h2, h3⟩, h4⟩, h5⟩, h6⟩, h7⟩ := h
  exact ⟨h0, h1, h2, h3, by omega, by omega, by omega, by omega⟩
set_option maxHeartbeats 2000000 in
theorem right6_any (w : World) (at1 : Int) (r1 : Nat → Int) (ba1 : Option Addr) (bn1 bc1 : Nat) (bf1 : Nat → Int) (wt1 : Int) (ma1 : Option Addr) (mn1 mc1 : Nat) (ia1 : Option Addr) (in1 ic1 : Nat) (oa1 : Option Addr) (on1 oc1 : Nat) (en1 : Bool) (cd1 ft1 : Int) (hn : bn1 ≤ 9223372036854775807) (h1 : RowK .i64 w ba1 bn1 bf1) :
    Calls Tryd.prog 19 #[stateV at1 r1 ba1 bn1 bc1 wt1 ma1 mn1 mc1 ia1 in1 ic1 oa1 on1 oc1 en1 cd1 ft1] w fun e w' => e = .returned (.bool (rightS at1 (r1 0) bn1 bf1)) ∧ Below w.heap.size w w' := by
  have HA : Hid (Below w.heap.size w (w.alloc (.cells (#[.int .i64 at1, .int .u32 (r1 0), .int .u32 (r1 1), .int .u32 (r1 2), .int .u32 (r1 3), .int .u32 (r1 4), .int .u32 (r1 5), .int .u32 (r1 6), .int .u32 (r1 7), .int .u32 (r1 8), .int .u32 (r1 9), .int .u32 (r1 10), .int .u32 (r1 11), .int .u32 (r1 12), .int .u32 (r1 13), .int .u32 (r1 14), .int .u32 (r1 15), .slice ba1 bn1 bc1, .int .i64 wt1, .slice ma1 mn1 mc1, .slice ia1 in1 ic1, .slice oa1 on1 oc1, .bool en1, .int .u32 cd1, .int .i64 ft1]) 32))) := (Below.refl _ w).alloc (Nat.le_refl _) _
  have A1 : At (w.alloc (.cells (#[.int .i64 at1, .int .u32 (r1 0), .int .u32 (r1 1), .int .u32 (r1 2), .int .u32 (r1 3), .int .u32 (r1 4), .int .u32 (r1 5), .int .u32 (r1 6), .int .u32 (r1 7), .int .u32 (r1 8), .int .u32 (r1 9), .int .u32 (r1 10), .int .u32 (r1 11), .int .u32 (r1 12), .int .u32 (r1 13), .int .u32 (r1 14), .int .u32 (r1 15), .slice ba1 bn1 bc1, .int .i64 wt1, .slice ma1 mn1 mc1, .slice ia1 in1 ic1, .slice oa1 on1 oc1, .bool en1, .int .u32 cd1, .int .i64 ft1]) 32)) w.heap.size (#[.int .i64 at1, .int .u32 (r1 0), .int .u32 (r1 1), .int .u32 (r1 2), .int .u32 (r1 3), .int .u32 (r1 4), .int .u32 (r1 5), .int .u32 (r1 6), .int .u32 (r1 7), .int .u32 (r1 8), .int .u32 (r1 9), .int .u32 (r1 10), .int .u32 (r1 11), .int .u32 (r1 12), .int .u32 (r1 13), .int .u32 (r1 14), .int .u32 (r1 15), .slice ba1 bn1 bc1, .int .i64 wt1, .slice ma1 mn1 mc1, .slice ia1 in1 ic1, .slice oa1 on1 oc1, .bool en1, .int .u32 cd1, .int .i64 ft1]) := At.new w _ 32
  have HR : Hid (RowK .i64 (w.alloc (.cells (#[.int .i64 at1, .int .u32 (r1 0), .int .u32 (r1 1), .int .u32 (r1 2), .int .u32 (r1 3), .int .u32 (r1 4), .int .u32 (r1 5), .int .u32 (r1 6), .int .u32 (r1 7), .int .u32 (r1 8), .int .u32 (r1 9), .int .u32 (r1 10), .int .u32 (r1 11), .int .u32 (r1 12), .int .u32 (r1 13), .int .u32 (r1 14), .int .u32 (r1 15), .slice ba1 bn1 bc1, .int .i64 wt1, .slice ma1 mn1 mc1, .slice ia1 in1 ic1, .slice oa1 on1 oc1, .bool en1, .int .u32 cd1, .int .i64 ft1]) 32)) ba1 bn1 bf1) := h1.later HA.out
  have HE : Hid (∀ b, (b = true ↔ (r1 0 = 0 ∧ 0 ≤ at1 ∧ at1 ≤ 1073741824 ∧ ∀ i, i < bn1 → 0 ≤ bf1 i ∧ bf1 i ≤ 1073741824)) → rightS at1 (r1 0) bn1 bf1 = b) := by
    intro b hb; unfold rightS; rw [Bool.eq_iff_iff, decide_eq_true_iff]; exact hb.symm
  generalize rightS at1 (r1 0) bn1 bf1 = S at HE ⊢
  clear h1
  by_cases q0 : r1 0 = 0
  rotate_left
  · obtain rfl : S = false := HE.out false ⟨fun h => by simp at h, fun h => absurd h.1 q0⟩
    have d0 : (r1 0 != 0) = true := by simpa using q0
    clear HE q0
    go_enter Tryd.func19, Tryd.ntmps19
    go_upto_region 1 with fail
    generalize (w.alloc (.cells (#[.int .i64 at1, .int .u32 (r1 0), .int .u32 (r1 1), .int .u32 (r1 2), .int .u32 (r1 3), .int .u32 (r1 4), .int .u32 (r1 5), .int .u32 (r1 6), .int .u32 (r1 7), .int .u32 (r1 8), .int .u32 (r1 9), .int .u32 (r1 10), .int .u32 (r1 11), .int .u32 (r1 12), .int .u32 (r1 13), .int .u32 (r1 14), .int .u32 (r1 15), .slice ba1 bn1 bc1, .int .i64 wt1, .slice ma1 mn1 mc1, .slice ia1 in1 ic1, .slice oa1 on1 oc1, .bool en1, .int .u32 cd1, .int .i64 ft1]) 32)) = w0 at HA A1 HR ⊢
    have p0 : w0.cell? ⟨w.heap.size, 0, none⟩ = some (.int .i64 at1) := A1 0 _ rfl
    have p1 : w0.cell? ⟨w.heap.size, 1, none⟩ = some (.int .u32 (r1 0)) := A1 1 _ rfl
    have p17 : w0.cell? ⟨w.heap.size, 17, none⟩ = some (.slice ba1 bn1 bc1) := A1 17 _ rfl
    go_wp2
    go_ret
    exact ⟨rfl, HA.out⟩
  by_cases q1 : at1 < 0
  · obtain rfl : S = false := HE.out false ⟨fun h => by simp at h, fun h => by omega⟩
    have d0 : (r1 0 != 0) = false := by simpa using q0
    have d1 : decide (at1 < 0) = true := decide_eq_true q1
    clear HE q0
    go_enter Tryd.func19, Tryd.ntmps19
    go_upto_region 1 with fail
    generalize (w.alloc (.cells (#[.int .i64 at1, .int .u32 (r1 0), .int .u32 (r1 1), .int .u32 (r1 2), .int .u32 (r1 3), .int .u32 (r1 4), .int .u32 (r1 5), .int .u32 (r1 6), .int .u32 (r1 7), .int .u32 (r1 8), .int .u32 (r1 9), .int .u32 (r1 10), .int .u32 (r1 11), .int .u32 (r1 12), .int .u32 (r1 13), .int .u32 (r1 14), .int .u32 (r1 15), .slice ba1 bn1 bc1, .int .i64 wt1, .slice ma1 mn1 mc1, .slice ia1 in1 ic1, .slice oa1 on1 oc1, .bool en1, .int .u32 cd1, .int .i64 ft1]) 32)) = w0 at HA A1 HR ⊢
    have p0 : w0.cell? ⟨w.heap.size, 0, none⟩ = some (.int .i64 at1) := A1 0 _ rfl
    have p1 : w0.cell? ⟨w.heap.size, 1, none⟩ = some (.int .u32 (r1 0)) := A1 1 _ rfl
    have p17 : w0.cell? ⟨w.heap.size, 17, none⟩ = some (.slice ba1 bn1 bc1) := A1 17 _ rfl
    go_wp2
    go_ret
    exact ⟨rfl, HA.out⟩
  by_cases q2 : 1073741824 < at1
  · obtain rfl : S = false := HE.out false ⟨fun h => by simp at h, fun h => by omega⟩
    have d0 : (r1 0 != 0) = false := by simpa using q0
    have d1 : decide (at1 < 0) = false := decide_eq_false q1
    clear HE q0
    go_enter Tryd.func19, Tryd.ntmps19
    go_upto_region 1 with fail
    generalize (w.alloc (.cells (#[.int .i64 at1, .int .u32 (r1 0), .int .u32 (r1 1), .int .u32 (r1 2), .int .u32 (r1 3), .int .u32 (r1 4), .int .u32 (r1 5), .int .u32 (r1 6), .int .u32 (r1 7), .int .u32 (r1 8), .int .u32 (r1 9), .int .u32 (r1 10), .int .u32 (r1 11), .int .u32 (r1 12), .int .u32 (r1 13), .int .u32 (r1 14), .int .u32 (r1 15), .slice ba1 bn1 bc1, .int .i64 wt1, .slice ma1 mn1 mc1, .slice ia1 in1 ic1, .slice oa1 on1 oc1, .bool en1, .int .u32 cd1, .int .i64 ft1]) 32)) = w0 at HA A1 HR ⊢
    have p0 : w0.cell? ⟨w.heap.size, 0, none⟩ = some (.int .i64 at1) := A1 0 _ rfl
    have p1 : w0.cell? ⟨w.heap.size, 1, none⟩ = some (.int .u32 (r1 0)) := A1 1 _ rfl
    have p17 : w0.cell? ⟨w.heap.size, 17, none⟩ = some (.slice ba1 bn1 bc1) := A1 17 _ rfl
    go_wp2
    go_ret
    exact ⟨rfl, HA.out⟩
  · have d0 : (r1 0 != 0) = false := by simpa using q0
    have d1 : decide (at1 < 0) = false := decide_eq_false q1
    have d2 : decide (1073741824 < at1) = false := decide_eq_false q2
    have HE : Hid (∀ b, (b = true ↔ ∀ i, i < bn1 → 0 ≤ bf1 i ∧ bf1 i ≤ 1073741824) → S = b) := fun b hb => HE.out b (hb.trans ⟨fun h => ⟨q0, by omega, by omega, h⟩, fun h => h.2.2.2⟩)
    clear q0
    go_enter Tryd.func19, Tryd.ntmps19
    go_upto_region 1 with fail
    generalize (w.alloc (.cells (#[.int .i64 at1, .int .u32 (r1 0), .int .u32 (r1 1), .int .u32 (r1 2), .int .u32 (r1 3), .int .u32 (r1 4), .int .u32 (r1 5), .int .u32 (r1 6), .int .u32 (r1 7), .int .u32 (r1 8), .int .u32 (r1 9), .int .u32 (r1 10), .int .u32 (r1 11), .int .u32 (r1 12), .int .u32 (r1 13), .int .u32 (r1 14), .int .u32 (r1 15), .slice ba1 bn1 bc1, .int .i64 wt1, .slice ma1 mn1 mc1, .slice ia1 in1 ic1, .slice oa1 on1 oc1, .bool en1, .int .u32 cd1, .int .i64 ft1]) 32)) = w0 at HA A1 HR ⊢
    have p0 : w0.cell? ⟨w.heap.size, 0, none⟩ = some (.int .i64 at1) := A1 0 _ rfl
    have p1 : w0.cell? ⟨w.heap.size, 1, none⟩ = some (.int .u32 (r1 0)) := A1 1 _ rfl
    have p17 : w0.cell? ⟨w.heap.size, 17, none⟩ = some (.slice ba1 bn1 bc1) := A1 17 _ rfl
    go_upto_region 3 with fail
    go_wp2
    go_loopw [3] (fun t wr => ∃ k : Nat, k ≤ bn1 ∧ t = .int .i64 k ∧ Below w0.heap.size w0 wr ∧ ∀ i, i < k → 0 ≤ bf1 i ∧ bf1 i ≤ 1073741824) (fun t _ => bn1 - (intOf t).toNat)
    case atStart => exact ⟨0, Nat.zero_le _, rfl, Below.refl _ _, fun i hi => by omega⟩
    case round =>
      obtain ⟨k, hk, rfl, hbel, hpre⟩ := hrel
      have HB : Hid (Below w0.heap.size w0 wr) := hbel
      have HP : Hid (∀ i, i < k → 0 ≤ bf1 i ∧ bf1 i ≤ 1073741824) := hpre
      have z17 := cell_later' p17 hbel
      clear hpre
      by_cases hlt : k < bn1
      · obtain ⟨hwf, e | ⟨b, off, rfl, hc⟩⟩ := HR.out.later hbel
        · omega
        have zk := hc k hlt
        clear hc hbel hwf
        by_cases q3 : 0 ≤ bf1 k ∧ bf1 k ≤ 1073741824
        · have HQ : Hid (0 ≤ bf1 k ∧ bf1 k ≤ 1073741824) := q3
          obtain ⟨q4, q5⟩ := q3
          generalize hz : bf1 k = z at zk q4 q5
          have HZ : Hid (bf1 k = z) := hz
          clear hz
          have e1 : decide (z < 0) = false := decide_eq_false (by omega)
          have e2 : decide (1073741824 < z) = false := decide_eq_false (by omega)
          go_wp2
          go_roundw
          case rel =>
            refine ⟨k + 1, by omega, by go_num, HB.out, fun i hi => ?_⟩
            by_cases e : i = k
            · subst e; exact HQ.out
            · exact HP.out i (by omega)
          case measure => simp [intOf]; omega
        · obtain rfl : S = false := HE.out false ⟨fun h => by simp at h, fun h => absurd (h k hlt) q3⟩
          generalize bf1 k = z at zk q3
          by_cases q4 : z < 0
          · have e1 : decide (z < 0) = true := decide_eq_true q4
            clear q3 HE
            go_wp2
            go_ret
            exact ⟨rfl, bnext HA.out HB.out⟩
          · have e1 : decide (z < 0) = false := decide_eq_false q4
            have e2 : decide (1073741824 < z) = true := decide_eq_true (by omega)
            clear q3 HE
            go_wp2
            go_ret
            exact ⟨rfl, bnext HA.out HB.out⟩
      · obtain rfl : k = bn1 := by omega
        obtain rfl : S = true := HE.out true ⟨fun _ => HP.out, fun _ => rfl⟩
        clear hbel
        go_wp2
        go_ret
        exact ⟨rfl, bnext HA.out HB.out⟩
set_option maxHeartbeats 2000000 in
theorem few6_0 (w : World) (at1 : Int) (r1 : Nat → Int) (ba1 : Option Addr) (bn1 bc1 : Nat) (bf1 : Nat → Int) (wt1 : Int) (ma1 : Option Addr) (mn1 mc1 : Nat) (ia1 : Option Addr) (in1 ic1 : Nat) (oa1 : Option Addr) (on1 oc1 : Nat) (en1 : Bool) (cd1 ft1 : Int) (hn : bn1 ≤ 9223372036854775807 ∧ mn1 ≤ 9223372036854775807 ∧ in1 ≤ 9223372036854775807 ∧ on1 ≤ 9223372036854775807)
    (HC : Hid (∀ W, Below (w.alloc (.cells (#[.int .i64 at1, .int .u32 (r1 0), .int .u32 (r1 1), .int .u32 (r1 2), .int .u32 (r1 3), .int .u32 (r1 4), .int .u32 (r1 5), .int .u32 (r1 6), .int .u32 (r1 7), .int .u32 (r1 8), .int .u32 (r1 9), .int .u32 (r1 10), .int .u32 (r1 11), .int .u32 (r1 12), .int .u32 (r1 13), .int .u32 (r1 14), .int .u32 (r1 15), .slice ba1 bn1 bc1, .int .i64 wt1, .slice ma1 mn1 mc1, .slice ia1 in1 ic1, .slice oa1 on1 oc1, .bool en1, .int .u32 cd1, .int .i64 ft1]) 32)).heap.size (w.alloc (.cells (#[.int .i64 at1, .int .u32 (r1 0), .int .u32 (r1 1), .int .u32 (r1 2), .int .u32 (r1 3), .int .u32 (r1 4), .int .u32 (r1 5), .int .u32 (r1 6), .int .u32 (r1 7), .int .u32 (r1 8), .int .u32 (r1 9), .int .u32 (r1 10), .int .u32 (r1 11), .int .u32 (r1 12), .int .u32 (r1 13), .int .u32 (r1 14), .int .u32 (r1 15), .slice ba1 bn1 bc1, .int .i64 wt1, .slice ma1 mn1 mc1, .slice ia1 in1 ic1, .slice oa1 on1 oc1, .bool en1, .int .u32 cd1, .int .i64 ft1]) 32)) W → Calls Tryd.prog 19 #[stateV at1 r1 ba1 bn1 bc1 wt1 ma1 mn1 mc1 ia1 in1 ic1 oa1 on1 oc1 en1 cd1 ft1] W fun e w' => e = .returned (.bool false) ∧ Below W.heap.size W w')) :
    Calls Tryd.prog 8 #[stateV at1 r1 ba1 bn1 bc1 wt1 ma1 mn1 mc1 ia1 in1 ic1 oa1 on1 oc1 en1 cd1 ft1] w fun e w' => e = .returned (.bool false) ∧ Below w.heap.size w w' := by
  have HA : Hid (Below w.heap.size w (w.alloc (.cells (#[.int .i64 at1, .int .u32 (r1 0), .int .u32 (r1 1), .int .u32 (r1 2), .int .u32 (r1 3), .int .u32 (r1 4), .int .u32 (r1 5), .int .u32 (r1 6), .int .u32 (r1 7), .int .u32 (r1 8), .int .u32 (r1 9), .int .u32 (r1 10), .int .u32 (r1 11), .int .u32 (r1 12), .int .u32 (r1 13), .int .u32 (r1 14), .int .u32 (r1 15), .slice ba1 bn1 bc1, .int .i64 wt1, .slice ma1 mn1 mc1, .slice ia1 in1 ic1, .slice oa1 on1 oc1, .bool en1, .int .u32 cd1, .int .i64 ft1]) 32))) := (Below.refl _ w).alloc (Nat.le_refl _) _
  have A1 : At (w.alloc (.cells (#[.int .i64 at1, .int .u32 (r1 0), .int .u32 (r1 1), .int .u32 (r1 2), .int .u32 (r1 3), .int .u32 (r1 4), .int .u32 (r1 5), .int .u32 (r1 6), .int .u32 (r1 7), .int .u32 (r1 8), .int .u32 (r1 9), .int .u32 (r1 10), .int .u32 (r1 11), .int .u32 (r1 12), .int .u32 (r1 13), .int .u32 (r1 14), .int .u32 (r1 15), .slice ba1 bn1 bc1, .int .i64 wt1, .slice ma1 mn1 mc1, .slice ia1 in1 ic1, .slice oa1 on1 oc1, .bool en1, .int .u32 cd1, .int .i64 ft1]) 32)) w.heap.size (#[.int .i64 at1, .int .u32 (r1 0), .int .u32 (r1 1), .int .u32 (r1 2), .int .u32 (r1 3), .int .u32 (r1 4), .int .u32 (r1 5), .int .u32 (r1 6), .int .u32 (r1 7), .int .u32 (r1 8), .int .u32 (r1 9), .int .u32 (r1 10), .int .u32 (r1 11), .int .u32 (r1 12), .int .u32 (r1 13), .int .u32 (r1 14), .int .u32 (r1 15), .slice ba1 bn1 bc1, .int .i64 wt1, .slice ma1 mn1 mc1, .slice ia1 in1 ic1, .slice oa1 on1 oc1, .bool en1, .int .u32 cd1, .int .i64 ft1]) := At.new w _ 32
  obtain ⟨n1, n2, n3, n4⟩ := hn
  go_enter Tryd.func8, Tryd.ntmps8
  go_upto_region 1 with fail
  generalize (w.alloc (.cells (#[.int .i64 at1, .int .u32 (r1 0), .int .u32 (r1 1), .int .u32 (r1 2), .int .u32 (r1 3), .int .u32 (r1 4), .int .u32 (r1 5), .int .u32 (r1 6), .int .u32 (r1 7), .int .u32 (r1 8), .int .u32 (r1 9), .int .u32 (r1 10), .int .u32 (r1 11), .int .u32 (r1 12), .int .u32 (r1 13), .int .u32 (r1 14), .int .u32 (r1 15), .slice ba1 bn1 bc1, .int .i64 wt1, .slice ma1 mn1 mc1, .slice ia1 in1 ic1, .slice oa1 on1 oc1, .bool en1, .int .u32 cd1, .int .i64 ft1]) 32)) = w0 at HA A1 HC ⊢
  go_wp2_with (first
    | (refine wpList_load_mid rfl 32 (.tmp 1) rfl w.heap.size 0 rfl (#[.int .i64 at1, .int .u32 (r1 0), .int .u32 (r1 1), .int .u32 (r1 2), .int .u32 (r1 3), .int .u32 (r1 4), .int .u32 (r1 5), .int .u32 (r1 6), .int .u32 (r1 7), .int .u32 (r1 8), .int .u32 (r1 9), .int .u32 (r1 10), .int .u32 (r1 11), .int .u32 (r1 12), .int .u32 (r1 13), .int .u32 (r1 14), .int .u32 (r1 15), .slice ba1 bn1 bc1, .int .i64 wt1, .slice ma1 mn1 mc1, .slice ia1 in1 ic1, .slice oa1 on1 oc1, .bool en1, .int .u32 cd1, .int .i64 ft1]).toList _ (at_range A1) Tryd.underlying32 rfl (by kernel_rfl) ?_)
    | (go_at_call 19; refine (HC.out _ (Below.refl _ _)).mono ?_; rintro e w1 ⟨rfl, hb1⟩; have q17 : w1.cell? ⟨w.heap.size, 17, none⟩ = some (.slice ba1 bn1 bc1) := (A1.later hb1) 17 _ rfl; have q19 : w1.cell? ⟨w.heap.size, 19, none⟩ = some (.slice ma1 mn1 mc1) := (A1.later hb1) 19 _ rfl; have q20 : w1.cell? ⟨w.heap.size, 20, none⟩ = some (.slice ia1 in1 ic1) := (A1.later hb1) 20 _ rfl; have q21 : w1.cell? ⟨w.heap.size, 21, none⟩ = some (.slice oa1 on1 oc1) := (A1.later hb1) 21 _ rfl))
  go_ret
  exact ⟨rfl, bnext HA.out hb1⟩
set_option maxHeartbeats 2000000 in
theorem few6_1 (w : World) (at1 : Int) (r1 : Nat → Int) (ba1 : Option Addr) (bn1 bc1 : Nat) (bf1 : Nat → Int) (wt1 : Int) (ma1 : Option Addr) (mn1 mc1 : Nat) (ia1 : Option Addr) (in1 ic1 : Nat) (oa1 : Option Addr) (on1 oc1 : Nat) (en1 : Bool) (cd1 ft1 : Int) (hn : bn1 ≤ 9223372036854775807 ∧ mn1 ≤ 9223372036854775807 ∧ in1 ≤ 9223372036854775807 ∧ on1 ≤ 9223372036854775807)
    (HC : Hid (∀ W, Below (w.alloc (.cells (#[.int .i64 at1, .int .u32 (r1 0), .int .u32 (r1 1), .int .u32 (r1 2), .int .u32 (r1 3), .int .u32 (r1 4), .int .u32 (r1 5), .int .u32 (r1 6), .int .u32 (r1 7), .int .u32 (r1 8), .int .u32 (r1 9), .int .u32 (r1 10), .int .u32 (r1 11), .int .u32 (r1 12), .int .u32 (r1 13), .int .u32 (r1 14), .int .u32 (r1 15), .slice ba1 bn1 bc1, .int .i64 wt1, .slice ma1 mn1 mc1, .slice ia1 in1 ic1, .slice oa1 on1 oc1, .bool en1, .int .u32 cd1, .int .i64 ft1]) 32)).heap.size (w.alloc (.cells (#[.int .i64 at1, .int .u32 (r1 0), .int .u32 (r1 1), .int .u32 (r1 2), .int .u32 (r1 3), .int .u32 (r1 4), .int .u32 (r1 5), .int .u32 (r1 6), .int .u32 (r1 7), .int .u32 (r1 8), .int .u32 (r1 9), .int .u32 (r1 10), .int .u32 (r1 11), .int .u32 (r1 12), .int .u32 (r1 13), .int .u32 (r1 14), .int .u32 (r1 15), .slice ba1 bn1 bc1, .int .i64 wt1, .slice ma1 mn1 mc1, .slice ia1 in1 ic1, .slice oa1 on1 oc1, .bool en1, .int .u32 cd1, .int .i64 ft1]) 32)) W → Calls Tryd.prog 19 #[stateV at1 r1 ba1 bn1 bc1 wt1 ma1 mn1 mc1 ia1 in1 ic1 oa1 on1 oc1 en1 cd1 ft1] W fun e w' => e = .returned (.bool true) ∧ Below W.heap.size W w')) (d1 : decide ((bn1 : Int) ≤ 100) = false) :
    Calls Tryd.prog 8 #[stateV at1 r1 ba1 bn1 bc1 wt1 ma1 mn1 mc1 ia1 in1 ic1 oa1 on1 oc1 en1 cd1 ft1] w fun e w' => e = .returned (.bool false) ∧ Below w.heap.size w w' := by
  have HA : Hid (Below w.heap.size w (w.alloc (.cells (#[.int .i64 at1, .int .u32 (r1 0), .int .u32 (r1 1), .int .u32 (r1 2), .int .u32 (r1 3), .int .u32 (r1 4), .int .u32 (r1 5), .int .u32 (r1 6), .int .u32 (r1 7), .int .u32 (r1 8), .int .u32 (r1 9), .int .u32 (r1 10), .int .u32 (r1 11), .int .u32 (r1 12), .int .u32 (r1 13), .int .u32 (r1 14), .int .u32 (r1 15), .slice ba1 bn1 bc1, .int .i64 wt1, .slice ma1 mn1 mc1, .slice ia1 in1 ic1, .slice oa1 on1 oc1, .bool en1, .int .u32 cd1, .int .i64 ft1]) 32))) := (Below.refl _ w).alloc (Nat.le_refl _) _
  have A1 : At (w.alloc (.cells (#[.int .i64 at1, .int .u32 (r1 0), .int .u32 (r1 1), .int .u32 (r1 2), .int .u32 (r1 3), .int .u32 (r1 4), .int .u32 (r1 5), .int .u32 (r1 6), .int .u32 (r1 7), .int .u32 (r1 8), .int .u32 (r1 9), .int .u32 (r1 10), .int .u32 (r1 11), .int .u32 (r1 12), .int .u32 (r1 13), .int .u32 (r1 14), .int .u32 (r1 15), .slice ba1 bn1 bc1, .int .i64 wt1, .slice ma1 mn1 mc1, .slice ia1 in1 ic1, .slice oa1 on1 oc1, .bool en1, .int .u32 cd1, .int .i64 ft1]) 32)) w.heap.size (#[.int .i64 at1, .int .u32 (r1 0), .int .u32 (r1 1), .int .u32 (r1 2), .int .u32 (r1 3), .int .u32 (r1 4), .int .u32 (r1 5), .int .u32 (r1 6), .int .u32 (r1 7), .int .u32 (r1 8), .int .u32 (r1 9), .int .u32 (r1 10), .int .u32 (r1 11), .int .u32 (r1 12), .int .u32 (r1 13), .int .u32 (r1 14), .int .u32 (r1 15), .slice ba1 bn1 bc1, .int .i64 wt1, .slice ma1 mn1 mc1, .slice ia1 in1 ic1, .slice oa1 on1 oc1, .bool en1, .int .u32 cd1, .int .i64 ft1]) := At.new w _ 32
  obtain ⟨n1, n2, n3, n4⟩ := hn
  go_enter Tryd.func8, Tryd.ntmps8
  go_upto_region 1 with fail
  generalize (w.alloc (.cells (#[.int .i64 at1, .int .u32 (r1 0), .int .u32 (r1 1), .int .u32 (r1 2), .int .u32 (r1 3), .int .u32 (r1 4), .int .u32 (r1 5), .int .u32 (r1 6), .int .u32 (r1 7), .int .u32 (r1 8), .int .u32 (r1 9), .int .u32 (r1 10), .int .u32 (r1 11), .int .u32 (r1 12), .int .u32 (r1 13), .int .u32 (r1 14), .int .u32 (r1 15), .slice ba1 bn1 bc1, .int .i64 wt1, .slice ma1 mn1 mc1, .slice ia1 in1 ic1, .slice oa1 on1 oc1, .bool en1, .int .u32 cd1, .int .i64 ft1]) 32)) = w0 at HA A1 HC ⊢
  go_wp2_with (first
    | (refine wpList_load_mid rfl 32 (.tmp 1) rfl w.heap.size 0 rfl (#[.int .i64 at1, .int .u32 (r1 0), .int .u32 (r1 1), .int .u32 (r1 2), .int .u32 (r1 3), .int .u32 (r1 4), .int .u32 (r1 5), .int .u32 (r1 6), .int .u32 (r1 7), .int .u32 (r1 8), .int .u32 (r1 9), .int .u32 (r1 10), .int .u32 (r1 11), .int .u32 (r1 12), .int .u32 (r1 13), .int .u32 (r1 14), .int .u32 (r1 15), .slice ba1 bn1 bc1, .int .i64 wt1, .slice ma1 mn1 mc1, .slice ia1 in1 ic1, .slice oa1 on1 oc1, .bool en1, .int .u32 cd1, .int .i64 ft1]).toList _ (at_range A1) Tryd.underlying32 rfl (by kernel_rfl) ?_)
    | (go_at_call 19; refine (HC.out _ (Below.refl _ _)).mono ?_; rintro e w1 ⟨rfl, hb1⟩; have q17 : w1.cell? ⟨w.heap.size, 17, none⟩ = some (.slice ba1 bn1 bc1) := (A1.later hb1) 17 _ rfl; have q19 : w1.cell? ⟨w.heap.size, 19, none⟩ = some (.slice ma1 mn1 mc1) := (A1.later hb1) 19 _ rfl; have q20 : w1.cell? ⟨w.heap.size, 20, none⟩ = some (.slice ia1 in1 ic1) := (A1.later hb1) 20 _ rfl; have q21 : w1.cell? ⟨w.heap.size, 21, none⟩ = some (.slice oa1 on1 oc1) := (A1.later hb1) 21 _ rfl))
  go_ret
  exact ⟨rfl, bnext HA.out hb1⟩
set_option maxHeartbeats 2000000 in
theorem few6_2 (w : World) (at1 : Int) (r1 : Nat → Int) (ba1 : Option Addr) (bn1 bc1 : Nat) (bf1 : Nat → Int) (wt1 : Int) (ma1 : Option Addr) (mn1 mc1 : Nat) (ia1 : Option Addr) (in1 ic1 : Nat) (oa1 : Option Addr) (on1 oc1 : Nat) (en1 : Bool) (cd1 ft1 : Int) (hn : bn1 ≤ 9223372036854775807 ∧ mn1 ≤ 9223372036854775807 ∧ in1 ≤ 9223372036854775807 ∧ on1 ≤ 9223372036854775807)
    (HC : Hid (∀ W, Below (w.alloc (.cells (#[.int .i64 at1, .int .u32 (r1 0), .int .u32 (r1 1), .int .u32 (r1 2), .int .u32 (r1 3), .int .u32 (r1 4), .int .u32 (r1 5), .int .u32 (r1 6), .int .u32 (r1 7), .int .u32 (r1 8), .int .u32 (r1 9), .int .u32 (r1 10), .int .u32 (r1 11), .int .u32 (r1 12), .int .u32 (r1 13), .int .u32 (r1 14), .int .u32 (r1 15), .slice ba1 bn1 bc1, .int .i64 wt1, .slice ma1 mn1 mc1, .slice ia1 in1 ic1, .slice oa1 on1 oc1, .bool en1, .int .u32 cd1, .int .i64 ft1]) 32)).heap.size (w.alloc (.cells (#[.int .i64 at1, .int .u32 (r1 0), .int .u32 (r1 1), .int .u32 (r1 2), .int .u32 (r1 3), .int .u32 (r1 4), .int .u32 (r1 5), .int .u32 (r1 6), .int .u32 (r1 7), .int .u32 (r1 8), .int .u32 (r1 9), .int .u32 (r1 10), .int .u32 (r1 11), .int .u32 (r1 12), .int .u32 (r1 13), .int .u32 (r1 14), .int .u32 (r1 15), .slice ba1 bn1 bc1, .int .i64 wt1, .slice ma1 mn1 mc1, .slice ia1 in1 ic1, .slice oa1 on1 oc1, .bool en1, .int .u32 cd1, .int .i64 ft1]) 32)) W → Calls Tryd.prog 19 #[stateV at1 r1 ba1 bn1 bc1 wt1 ma1 mn1 mc1 ia1 in1 ic1 oa1 on1 oc1 en1 cd1 ft1] W fun e w' => e = .returned (.bool true) ∧ Below W.heap.size W w')) (d1 : decide ((bn1 : Int) ≤ 100) = true) (d2 : decide ((mn1 : Int) ≤ 2000) = false) :
    Calls Tryd.prog 8 #[stateV at1 r1 ba1 bn1 bc1 wt1 ma1 mn1 mc1 ia1 in1 ic1 oa1 on1 oc1 en1 cd1 ft1] w fun e w' => e = .returned (.bool false) ∧ Below w.heap.size w w' := by
  have HA : Hid (Below w.heap.size w (w.alloc (.cells (#[.int .i64 at1, .int .u32 (r1 0), .int .u32 (r1 1), .int .u32 (r1 2), .int .u32 (r1 3), .int .u32 (r1 4), .int .u32 (r1 5), .int .u32 (r1 6), .int .u32 (r1 7), .int .u32 (r1 8), .int .u32 (r1 9), .int .u32 (r1 10), .int .u32 (r1 11), .int .u32 (r1 12), .int .u32 (r1 13), .int .u32 (r1 14), .int .u32 (r1 15), .slice ba1 bn1 bc1, .int .i64 wt1, .slice ma1 mn1 mc1, .slice ia1 in1 ic1, .slice oa1 on1 oc1, .bool en1, .int .u32 cd1, .int .i64 ft1]) 32))) := (Below.refl _ w).alloc (Nat.le_refl _) _
  have A1 : At (w.alloc (.cells (#[.int .i64 at1, .int .u32 (r1 0), .int .u32 (r1 1), .int .u32 (r1 2), .int .u32 (r1 3), .int .u32 (r1 4), .int .u32 (r1 5), .int .u32 (r1 6), .int .u32 (r1 7), .int .u32 (r1 8), .int .u32 (r1 9), .int .u32 (r1 10), .int .u32 (r1 11), .int .u32 (r1 12), .int .u32 (r1 13), .int .u32 (r1 14), .int .u32 (r1 15), .slice ba1 bn1 bc1, .int .i64 wt1, .slice ma1 mn1 mc1, .slice ia1 in1 ic1, .slice oa1 on1 oc1, .bool en1, .int .u32 cd1, .int .i64 ft1]) 32)) w.heap.size (#[.int .i64 at1, .int .u32 (r1 0), .int .u32 (r1 1), .int .u32 (r1 2), .int .u32 (r1 3), .int .u32 (r1 4), .int .u32 (r1 5), .int .u32 (r1 6), .int .u32 (r1 7), .int .u32 (r1 8), .int .u32 (r1 9), .int .u32 (r1 10), .int .u32 (r1 11), .int .u32 (r1 12), .int .u32 (r1 13), .int .u32 (r1 14), .int .u32 (r1 15), .slice ba1 bn1 bc1, .int .i64 wt1, .slice ma1 mn1 mc1, .slice ia1 in1 ic1, .slice oa1 on1 oc1, .bool en1, .int .u32 cd1, .int .i64 ft1]) := At.new w _ 32
  obtain ⟨n1, n2, n3, n4⟩ := hn
  go_enter Tryd.func8, Tryd.ntmps8
  go_upto_region 1 with fail
  generalize (w.alloc (.cells (#[.int .i64 at1, .int .u32 (r1 0), .int .u32 (r1 1), .int .u32 (r1 2), .int .u32 (r1 3), .int .u32 (r1 4), .int .u32 (r1 5), .int .u32 (r1 6), .int .u32 (r1 7), .int .u32 (r1 8), .int .u32 (r1 9), .int .u32 (r1 10), .int .u32 (r1 11), .int .u32 (r1 12), .int .u32 (r1 13), .int .u32 (r1 14), .int .u32 (r1 15), .slice ba1 bn1 bc1, .int .i64 wt1, .slice ma1 mn1 mc1, .slice ia1 in1 ic1, .slice oa1 on1 oc1, .bool en1, .int .u32 cd1, .int .i64 ft1]) 32)) = w0 at HA A1 HC ⊢
  go_wp2_with (first
    | (refine wpList_load_mid rfl 32 (.tmp 1) rfl w.heap.size 0 rfl (#[.int .i64 at1, .int .u32 (r1 0), .int .u32 (r1 1), .int .u32 (r1 2), .int .u32 (r1 3), .int .u32 (r1 4), .int .u32 (r1 5), .int .u32 (r1 6), .int .u32 (r1 7), .int .u32 (r1 8), .int .u32 (r1 9), .int .u32 (r1 10), .int .u32 (r1 11), .int .u32 (r1 12), .int .u32 (r1 13), .int .u32 (r1 14), .int .u32 (r1 15), .slice ba1 bn1 bc1, .int .i64 wt1, .slice ma1 mn1 mc1, .slice ia1 in1 ic1, .slice oa1 on1 oc1, .bool en1, .int .u32 cd1, .int .i64 ft1]).toList _ (at_range A1) Tryd.underlying32 rfl (by kernel_rfl) ?_)
    | (go_at_call 19; refine (HC.out _ (Below.refl _ _)).mono ?_; rintro e w1 ⟨rfl, hb1⟩; have q17 : w1.cell? ⟨w.heap.size, 17, none⟩ = some (.slice ba1 bn1 bc1) := (A1.later hb1) 17 _ rfl; have q19 : w1.cell? ⟨w.heap.size, 19, none⟩ = some (.slice ma1 mn1 mc1) := (A1.later hb1) 19 _ rfl; have q20 : w1.cell? ⟨w.heap.size, 20, none⟩ = some (.slice ia1 in1 ic1) := (A1.later hb1) 20 _ rfl; have q21 : w1.cell? ⟨w.heap.size, 21, none⟩ = some (.slice oa1 on1 oc1) := (A1.later hb1) 21 _ rfl))
  go_ret
  exact ⟨rfl, bnext HA.out hb1⟩
set_option maxHeartbeats 2000000 in
theorem few6_3 (w : World) (at1 : Int) (r1 : Nat → Int) (ba1 : Option Addr) (bn1 bc1 : Nat) (bf1 : Nat → Int) (wt1 : Int) (ma1 : Option Addr) (mn1 mc1 : Nat) (ia1 : Option Addr) (in1 ic1 : Nat) (oa1 : Option Addr) (on1 oc1 : Nat) (en1 : Bool) (cd1 ft1 : Int) (hn : bn1 ≤ 9223372036854775807 ∧ mn1 ≤ 9223372036854775807 ∧ in1 ≤ 9223372036854775807 ∧ on1 ≤ 9223372036854775807)
    (HC : Hid (∀ W, Below (w.alloc (.cells (#[.int .i64 at1, .int .u32 (r1 0), .int .u32 (r1 1), .int .u32 (r1 2), .int .u32 (r1 3), .int .u32 (r1 4), .int .u32 (r1 5), .int .u32 (r1 6), .int .u32 (r1 7), .int .u32 (r1 8), .int .u32 (r1 9), .int .u32 (r1 10), .int .u32 (r1 11), .int .u32 (r1 12), .int .u32 (r1 13), .int .u32 (r1 14), .int .u32 (r1 15), .slice ba1 bn1 bc1, .int .i64 wt1, .slice ma1 mn1 mc1, .slice ia1 in1 ic1, .slice oa1 on1 oc1, .bool en1, .int .u32 cd1, .int .i64 ft1]) 32)).heap.size (w.alloc (.cells (#[.int .i64 at1, .int .u32 (r1 0), .int .u32 (r1 1), .int .u32 (r1 2), .int .u32 (r1 3), .int .u32 (r1 4), .int .u32 (r1 5), .int .u32 (r1 6), .int .u32 (r1 7), .int .u32 (r1 8), .int .u32 (r1 9), .int .u32 (r1 10), .int .u32 (r1 11), .int .u32 (r1 12), .int .u32 (r1 13), .int .u32 (r1 14), .int .u32 (r1 15), .slice ba1 bn1 bc1, .int .i64 wt1, .slice ma1 mn1 mc1, .slice ia1 in1 ic1, .slice oa1 on1 oc1, .bool en1, .int .u32 cd1, .int .i64 ft1]) 32)) W → Calls Tryd.prog 19 #[stateV at1 r1 ba1 bn1 bc1 wt1 ma1 mn1 mc1 ia1 in1 ic1 oa1 on1 oc1 en1 cd1 ft1] W fun e w' => e = .returned (.bool true) ∧ Below W.heap.size W w')) (d1 : decide ((bn1 : Int) ≤ 100) = true) (d2 : decide ((mn1 : Int) ≤ 2000) = true) (d3 : decide ((in1 : Int) ≤ 500) = false) :
    Calls Tryd.prog 8 #[stateV at1 r1 ba1 bn1 bc1 wt1 ma1 mn1 mc1 ia1 in1 ic1 oa1 on1 oc1 en1 cd1 ft1] w fun e w' => e = .returned (.bool false) ∧ Below w.heap.size w w' := by
  have HA : Hid (Below w.heap.size w (w.alloc (.cells (#[.int .i64 at1, .int .u32 (r1 0), .int .u32 (r1 1), .int .u32 (r1 2), .int .u32 (r1 3), .int .u32 (r1 4), .int .u32 (r1 5), .int .u32 (r1 6), .int .u32 (r1 7), .int .u32 (r1 8), .int .u32 (r1 9), .int .u32 (r1 10), .int .u32 (r1 11), .int .u32 (r1 12), .int .u32 (r1 13), .int .u32 (r1 14), .int .u32 (r1 15), .slice ba1 bn1 bc1, .int .i64 wt1, .slice ma1 mn1 mc1, .slice ia1 in1 ic1, .slice oa1 on1 oc1, .bool en1, .int .u32 cd1, .int .i64 ft1]) 32))) := (Below.refl _ w).alloc (Nat.le_refl _) _
  have A1 : At (w.alloc (.cells (#[.int .i64 at1, .int .u32 (r1 0), .int .u32 (r1 1), .int .u32 (r1 2), .int .u32 (r1 3), .int .u32 (r1 4), .int .u32 (r1 5), .int .u32 (r1 6), .int .u32 (r1 7), .int .u32 (r1 8), .int .u32 (r1 9), .int .u32 (r1 10), .int .u32 (r1 11), .int .u32 (r1 12), .int .u32 (r1 13), .int .u32 (r1 14), .int .u32 (r1 15), .slice ba1 bn1 bc1, .int .i64 wt1, .slice ma1 mn1 mc1, .slice ia1 in1 ic1, .slice oa1 on1 oc1, .bool en1, .int .u32 cd1, .int .i64 ft1]) 32)) w.heap.size (#[.int .i64 at1, .int .u32 (r1 0), .int .u32 (r1 1), .int .u32 (r1 2), .int .u32 (r1 3), .int .u32 (r1 4), .int .u32 (r1 5), .int .u32 (r1 6), .int .u32 (r1 7), .int .u32 (r1 8), .int .u32 (r1 9), .int .u32 (r1 10), .int .u32 (r1 11), .int .u32 (r1 12), .int .u32 (r1 13), .int .u32 (r1 14), .int .u32 (r1 15), .slice ba1 bn1 bc1, .int .i64 wt1, .slice ma1 mn1 mc1, .slice ia1 in1 ic1, .slice oa1 on1 oc1, .bool en1, .int .u32 cd1, .int .i64 ft1]) := At.new w _ 32
  obtain ⟨n1, n2, n3, n4⟩ := hn
  go_enter Tryd.func8, Tryd.ntmps8
  go_upto_region 1 with fail
  generalize (w.alloc (.cells (#[.int .i64 at1, .int .u32 (r1 0), .int .u32 (r1 1), .int .u32 (r1 2), .int .u32 (r1 3), .int .u32 (r1 4), .int .u32 (r1 5), .int .u32 (r1 6), .int .u32 (r1 7), .int .u32 (r1 8), .int .u32 (r1 9), .int .u32 (r1 10), .int .u32 (r1 11), .int .u32 (r1 12), .int .u32 (r1 13), .int .u32 (r1 14), .int .u32 (r1 15), .slice ba1 bn1 bc1, .int .i64 wt1, .slice ma1 mn1 mc1, .slice ia1 in1 ic1, .slice oa1 on1 oc1, .bool en1, .int .u32 cd1, .int .i64 ft1]) 32)) = w0 at HA A1 HC ⊢
  go_wp2_with (first
    | (refine wpList_load_mid rfl 32 (.tmp 1) rfl w.heap.size 0 rfl (#[.int .i64 at1, .int .u32 (r1 0), .int .u32 (r1 1), .int .u32 (r1 2), .int .u32 (r1 3), .int .u32 (r1 4), .int .u32 (r1 5), .int .u32 (r1 6), .int .u32 (r1 7), .int .u32 (r1 8), .int .u32 (r1 9), .int .u32 (r1 10), .int .u32 (r1 11), .int .u32 (r1 12), .int .u32 (r1 13), .int .u32 (r1 14), .int .u32 (r1 15), .slice ba1 bn1 bc1, .int .i64 wt1, .slice ma1 mn1 mc1, .slice ia1 in1 ic1, .slice oa1 on1 oc1, .bool en1, .int .u32 cd1, .int .i64 ft1]).toList _ (at_range A1) Tryd.underlying32 rfl (by kernel_rfl) ?_)
    | (go_at_call 19; refine (HC.out _ (Below.refl _ _)).mono ?_; rintro e w1 ⟨rfl, hb1⟩; have q17 : w1.cell? ⟨w.heap.size, 17, none⟩ = some (.slice ba1 bn1 bc1) := (A1.later hb1) 17 _ rfl; have q19 : w1.cell? ⟨w.heap.size, 19, none⟩ = some (.slice ma1 mn1 mc1) := (A1.later hb1) 19 _ rfl; have q20 : w1.cell? ⟨w.heap.size, 20, none⟩ = some (.slice ia1 in1 ic1) := (A1.later hb1) 20 _ rfl; have q21 : w1.cell? ⟨w.heap.size, 21, none⟩ = some (.slice oa1 on1 oc1) := (A1.later hb1) 21 _ rfl))
  go_ret
  exact ⟨rfl, bnext HA.out hb1⟩
set_option maxHeartbeats 2000000 in
theorem few6_4 (w : World) (at1 : Int) (r1 : Nat → Int) (ba1 : Option Addr) (bn1 bc1 : Nat) (bf1 : Nat → Int) (wt1 : Int) (ma1 : Option Addr) (mn1 mc1 : Nat) (ia1 : Option Addr) (in1 ic1 : Nat) (oa1 : Option Addr) (on1 oc1 : Nat) (en1 : Bool) (cd1 ft1 : Int) (hn : bn1 ≤ 9223372036854775807 ∧ mn1 ≤ 9223372036854775807 ∧ in1 ≤ 9223372036854775807 ∧ on1 ≤ 9223372036854775807)
    (HC : Hid (∀ W, Below (w.alloc (.cells (#[.int .i64 at1, .int .u32 (r1 0), .int .u32 (r1 1), .int .u32 (r1 2), .int .u32 (r1 3), .int .u32 (r1 4), .int .u32 (r1 5), .int .u32 (r1 6), .int .u32 (r1 7), .int .u32 (r1 8), .int .u32 (r1 9), .int .u32 (r1 10), .int .u32 (r1 11), .int .u32 (r1 12), .int .u32 (r1 13), .int .u32 (r1 14), .int .u32 (r1 15), .slice ba1 bn1 bc1, .int .i64 wt1, .slice ma1 mn1 mc1, .slice ia1 in1 ic1, .slice oa1 on1 oc1, .bool en1, .int .u32 cd1, .int .i64 ft1]) 32)).heap.size (w.alloc (.cells (#[.int .i64 at1, .int .u32 (r1 0), .int .u32 (r1 1), .int .u32 (r1 2), .int .u32 (r1 3), .int .u32 (r1 4), .int .u32 (r1 5), .int .u32 (r1 6), .int .u32 (r1 7), .int .u32 (r1 8), .int .u32 (r1 9), .int .u32 (r1 10), .int .u32 (r1 11), .int .u32 (r1 12), .int .u32 (r1 13), .int .u32 (r1 14), .int .u32 (r1 15), .slice ba1 bn1 bc1, .int .i64 wt1, .slice ma1 mn1 mc1, .slice ia1 in1 ic1, .slice oa1 on1 oc1, .bool en1, .int .u32 cd1, .int .i64 ft1]) 32)) W → Calls Tryd.prog 19 #[stateV at1 r1 ba1 bn1 bc1 wt1 ma1 mn1 mc1 ia1 in1 ic1 oa1 on1 oc1 en1 cd1 ft1] W fun e w' => e = .returned (.bool true) ∧ Below W.heap.size W w')) (d1 : decide ((bn1 : Int) ≤ 100) = true) (d2 : decide ((mn1 : Int) ≤ 2000) = true) (d3 : decide ((in1 : Int) ≤ 500) = true) (d4 : decide ((on1 : Int) ≤ 5000) = false) :
    Calls Tryd.prog 8 #[stateV at1 r1 ba1 bn1 bc1 wt1 ma1 mn1 mc1 ia1 in1 ic1 oa1 on1 oc1 en1 cd1 ft1] w fun e w' => e = .returned (.bool false) ∧ Below w.heap.size w w' := by
  have HA : Hid (Below w.heap.size w (w.alloc (.cells (#[.int .i64 at1, .int .u32 (r1 0), .int .u32 (r1 1), .int .u32 (r1 2), .int .u32 (r1 3), .int .u32 (r1 4), .int .u32 (r1 5), .int .u32 (r1 6), .int .u32 (r1 7), .int .u32 (r1 8), .int .u32 (r1 9), .int .u32 (r1 10), .int .u32 (r1 11), .int .u32 (r1 12), .int .u32 (r1 13), .int .u32 (r1 14), .int .u32 (r1 15), .slice ba1 bn1 bc1, .int .i64 wt1, .slice ma1 mn1 mc1, .slice ia1 in1 ic1, .slice oa1 on1 oc1, .bool en1, .int .u32 cd1, .int .i64 ft1]) 32))) := (Below.refl _ w).alloc (Nat.le_refl _) _
  have A1 : At (w.alloc (.cells (#[.int .i64 at1, .int .u32 (r1 0), .int .u32 (r1 1), .int .u32 (r1 2), .int .u32 (r1 3), .int .u32 (r1 4), .int .u32 (r1 5), .int .u32 (r1 6), .int .u32 (r1 7), .int .u32 (r1 8), .int .u32 (r1 9), .int .u32 (r1 10), .int .u32 (r1 11), .int .u32 (r1 12), .int .u32 (r1 13), .int .u32 (r1 14), .int .u32 (r1 15), .slice ba1 bn1 bc1, .int .i64 wt1, .slice ma1 mn1 mc1, .slice ia1 in1 ic1, .slice oa1 on1 oc1, .bool en1, .int .u32 cd1, .int .i64 ft1]) 32)) w.heap.size (#[.int .i64 at1, .int .u32 (r1 0), .int .u32 (r1 1), .int .u32 (r1 2), .int .u32 (r1 3), .int .u32 (r1 4), .int .u32 (r1 5), .int .u32 (r1 6), .int .u32 (r1 7), .int .u32 (r1 8), .int .u32 (r1 9), .int .u32 (r1 10), .int .u32 (r1 11), .int .u32 (r1 12), .int .u32 (r1 13), .int .u32 (r1 14), .int .u32 (r1 15), .slice ba1 bn1 bc1, .int .i64 wt1, .slice ma1 mn1 mc1, .slice ia1 in1 ic1, .slice oa1 on1 oc1, .bool en1, .int .u32 cd1, .int .i64 ft1]) := At.new w _ 32
  obtain ⟨n1, n2, n3, n4⟩ := hn
  go_enter Tryd.func8, Tryd.ntmps8
  go_upto_region 1 with fail
  generalize (w.alloc (.cells (#[.int .i64 at1, .int .u32 (r1 0), .int .u32 (r1 1), .int .u32 (r1 2), .int .u32 (r1 3), .int .u32 (r1 4), .int .u32 (r1 5), .int .u32 (r1 6), .int .u32 (r1 7), .int .u32 (r1 8), .int .u32 (r1 9), .int .u32 (r1 10), .int .u32 (r1 11), .int .u32 (r1 12), .int .u32 (r1 13), .int .u32 (r1 14), .int .u32 (r1 15), .slice ba1 bn1 bc1, .int .i64 wt1, .slice ma1 mn1 mc1, .slice ia1 in1 ic1, .slice oa1 on1 oc1, .bool en1, .int .u32 cd1, .int .i64 ft1]) 32)) = w0 at HA A1 HC ⊢
  go_wp2_with (first
    | (refine wpList_load_mid rfl 32 (.tmp 1) rfl w.heap.size 0 rfl (#[.int .i64 at1, .int .u32 (r1 0), .int .u32 (r1 1), .int .u32 (r1 2), .int .u32 (r1 3), .int .u32 (r1 4), .int .u32 (r1 5), .int .u32 (r1 6), .int .u32 (r1 7), .int .u32 (r1 8), .int .u32 (r1 9), .int .u32 (r1 10), .int .u32 (r1 11), .int .u32 (r1 12), .int .u32 (r1 13), .int .u32 (r1 14), .int .u32 (r1 15), .slice ba1 bn1 bc1, .int .i64 wt1, .slice ma1 mn1 mc1, .slice ia1 in1 ic1, .slice oa1 on1 oc1, .bool en1, .int .u32 cd1, .int .i64 ft1]).toList _ (at_range A1) Tryd.underlying32 rfl (by kernel_rfl) ?_)
    | (go_at_call 19; refine (HC.out _ (Below.refl _ _)).mono ?_; rintro e w1 ⟨rfl, hb1⟩; have q17 : w1.cell? ⟨w.heap.size, 17, none⟩ = some (.slice ba1 bn1 bc1) := (A1.later hb1) 17 _ rfl; have q19 : w1.cell? ⟨w.heap.size, 19, none⟩ = some (.slice ma1 mn1 mc1) := (A1.later hb1) 19 _ rfl; have q20 : w1.cell? ⟨w.heap.size, 20, none⟩ = some (.slice ia1 in1 ic1) := (A1.later hb1) 20 _ rfl; have q21 : w1.cell? ⟨w.heap.size, 21, none⟩ = some (.slice oa1 on1 oc1) := (A1.later hb1) 21 _ rfl))
  go_ret
  exact ⟨rfl, bnext HA.out hb1⟩
set_option maxHeartbeats 2000000 in
theorem few6_5 (w : World) (at1 : Int) (r1 : Nat → Int) (ba1 : Option Addr) (bn1 bc1 : Nat) (bf1 : Nat → Int) (wt1 : Int) (ma1 : Option Addr) (mn1 mc1 : Nat) (ia1 : Option Addr) (in1 ic1 : Nat) (oa1 : Option Addr) (on1 oc1 : Nat) (en1 : Bool) (cd1 ft1 : Int) (hn : bn1 ≤ 9223372036854775807 ∧ mn1 ≤ 9223372036854775807 ∧ in1 ≤ 9223372036854775807 ∧ on1 ≤ 9223372036854775807)
    (HC : Hid (∀ W, Below (w.alloc (.cells (#[.int .i64 at1, .int .u32 (r1 0), .int .u32 (r1 1), .int .u32 (r1 2), .int .u32 (r1 3), .int .u32 (r1 4), .int .u32 (r1 5), .int .u32 (r1 6), .int .u32 (r1 7), .int .u32 (r1 8), .int .u32 (r1 9), .int .u32 (r1 10), .int .u32 (r1 11), .int .u32 (r1 12), .int .u32 (r1 13), .int .u32 (r1 14), .int .u32 (r1 15), .slice ba1 bn1 bc1, .int .i64 wt1, .slice ma1 mn1 mc1, .slice ia1 in1 ic1, .slice oa1 on1 oc1, .bool en1, .int .u32 cd1, .int .i64 ft1]) 32)).heap.size (w.alloc (.cells (#[.int .i64 at1, .int .u32 (r1 0), .int .u32 (r1 1), .int .u32 (r1 2), .int .u32 (r1 3), .int .u32 (r1 4), .int .u32 (r1 5), .int .u32 (r1 6), .int .u32 (r1 7), .int .u32 (r1 8), .int .u32 (r1 9), .int .u32 (r1 10), .int .u32 (r1 11), .int .u32 (r1 12), .int .u32 (r1 13), .int .u32 (r1 14), .int .u32 (r1 15), .slice ba1 bn1 bc1, .int .i64 wt1, .slice ma1 mn1 mc1, .slice ia1 in1 ic1, .slice oa1 on1 oc1, .bool en1, .int .u32 cd1, .int .i64 ft1]) 32)) W → Calls Tryd.prog 19 #[stateV at1 r1 ba1 bn1 bc1 wt1 ma1 mn1 mc1 ia1 in1 ic1 oa1 on1 oc1 en1 cd1 ft1] W fun e w' => e = .returned (.bool true) ∧ Below W.heap.size W w')) (d1 : decide ((bn1 : Int) ≤ 100) = true) (d2 : decide ((mn1 : Int) ≤ 2000) = true) (d3 : decide ((in1 : Int) ≤ 500) = true) (d4 : decide ((on1 : Int) ≤ 5000) = true) :
    Calls Tryd.prog 8 #[stateV at1 r1 ba1 bn1 bc1 wt1 ma1 mn1 mc1 ia1 in1 ic1 oa1 on1 oc1 en1 cd1 ft1] w fun e w' => e = .returned (.bool true) ∧ Below w.heap.size w w' := by
  have HA : Hid (Below w.heap.size w (w.alloc (.cells (#[.int .i64 at1, .int .u32 (r1 0), .int .u32 (r1 1), .int .u32 (r1 2), .int .u32 (r1 3), .int .u32 (r1 4), .int .u32 (r1 5), .int .u32 (r1 6), .int .u32 (r1 7), .int .u32 (r1 8), .int .u32 (r1 9), .int .u32 (r1 10), .int .u32 (r1 11), .int .u32 (r1 12), .int .u32 (r1 13), .int .u32 (r1 14), .int .u32 (r1 15), .slice ba1 bn1 bc1, .int .i64 wt1, .slice ma1 mn1 mc1, .slice ia1 in1 ic1, .slice oa1 on1 oc1, .bool en1, .int .u32 cd1, .int .i64 ft1]) 32))) := (Below.refl _ w).alloc (Nat.le_refl _) _
  have A1 : At (w.alloc (.cells (#[.int .i64 at1, .int .u32 (r1 0), .int .u32 (r1 1), .int .u32 (r1 2), .int .u32 (r1 3), .int .u32 (r1 4), .int .u32 (r1 5), .int .u32 (r1 6), .int .u32 (r1 7), .int .u32 (r1 8), .int .u32 (r1 9), .int .u32 (r1 10), .int .u32 (r1 11), .int .u32 (r1 12), .int .u32 (r1 13), .int .u32 (r1 14), .int .u32 (r1 15), .slice ba1 bn1 bc1, .int .i64 wt1, .slice ma1 mn1 mc1, .slice ia1 in1 ic1, .slice oa1 on1 oc1, .bool en1, .int .u32 cd1, .int .i64 ft1]) 32)) w.heap.size (#[.int .i64 at1, .int .u32 (r1 0), .int .u32 (r1 1), .int .u32 (r1 2), .int .u32 (r1 3), .int .u32 (r1 4), .int .u32 (r1 5), .int .u32 (r1 6), .int .u32 (r1 7), .int .u32 (r1 8), .int .u32 (r1 9), .int .u32 (r1 10), .int .u32 (r1 11), .int .u32 (r1 12), .int .u32 (r1 13), .int .u32 (r1 14), .int .u32 (r1 15), .slice ba1 bn1 bc1, .int .i64 wt1, .slice ma1 mn1 mc1, .slice ia1 in1 ic1, .slice oa1 on1 oc1, .bool en1, .int .u32 cd1, .int .i64 ft1]) := At.new w _ 32
  obtain ⟨n1, n2, n3, n4⟩ := hn
  go_enter Tryd.func8, Tryd.ntmps8
  go_upto_region 1 with fail
  generalize (w.alloc (.cells (#[.int .i64 at1, .int .u32 (r1 0), .int .u32 (r1 1), .int .u32 (r1 2), .int .u32 (r1 3), .int .u32 (r1 4), .int .u32 (r1 5), .int .u32 (r1 6), .int .u32 (r1 7), .int .u32 (r1 8), .int .u32 (r1 9), .int .u32 (r1 10), .int .u32 (r1 11), .int .u32 (r1 12), .int .u32 (r1 13), .int .u32 (r1 14), .int .u32 (r1 15), .slice ba1 bn1 bc1, .int .i64 wt1, .slice ma1 mn1 mc1, .slice ia1 in1 ic1, .slice oa1 on1 oc1, .bool en1, .int .u32 cd1, .int .i64 ft1]) 32)) = w0 at HA A1 HC ⊢
  go_wp2_with (first
    | (refine wpList_load_mid rfl 32 (.tmp 1) rfl w.heap.size 0 rfl (#[.int .i64 at1, .int .u32 (r1 0), .int .u32 (r1 1), .int .u32 (r1 2), .int .u32 (r1 3), .int .u32 (r1 4), .int .u32 (r1 5), .int .u32 (r1 6), .int .u32 (r1 7), .int .u32 (r1 8), .int .u32 (r1 9), .int .u32 (r1 10), .int .u32 (r1 11), .int .u32 (r1 12), .int .u32 (r1 13), .int .u32 (r1 14), .int .u32 (r1 15), .slice ba1 bn1 bc1, .int .i64 wt1, .slice ma1 mn1 mc1, .slice ia1 in1 ic1, .slice oa1 on1 oc1, .bool en1, .int .u32 cd1, .int .i64 ft1]).toList _ (at_range A1) Tryd.underlying32 rfl (by kernel_rfl) ?_)
    | (go_at_call 19; refine (HC.out _ (Below.refl _ _)).mono ?_; rintro e w1 ⟨rfl, hb1⟩; have q17 : w1.cell? ⟨w.heap.size, 17, none⟩ = some (.slice ba1 bn1 bc1) := (A1.later hb1) 17 _ rfl; have q19 : w1.cell? ⟨w.heap.size, 19, none⟩ = some (.slice ma1 mn1 mc1) := (A1.later hb1) 19 _ rfl; have q20 : w1.cell? ⟨w.heap.size, 20, none⟩ = some (.slice ia1 in1 ic1) := (A1.later hb1) 20 _ rfl; have q21 : w1.cell? ⟨w.heap.size, 21, none⟩ = some (.slice oa1 on1 oc1) := (A1.later hb1) 21 _ rfl))
  go_ret
  exact ⟨rfl, bnext HA.out hb1⟩
set_option maxHeartbeats 4000000 in
theorem few6_any (w : World) (at1 : Int) (r1 : Nat → Int) (ba1 : Option Addr) (bn1 bc1 : Nat) (bf1 : Nat → Int) (wt1 : Int) (ma1 : Option Addr) (mn1 mc1 : Nat) (ia1 : Option Addr) (in1 ic1 : Nat) (oa1 : Option Addr) (on1 oc1 : Nat) (en1 : Bool) (cd1 ft1 : Int) (hn : bn1 ≤ 9223372036854775807 ∧ mn1 ≤ 9223372036854775807 ∧ in1 ≤ 9223372036854775807 ∧ on1 ≤ 9223372036854775807) (h1 : RowK .i64 w ba1 bn1 bf1) :
    Calls Tryd.prog 8 #[stateV at1 r1 ba1 bn1 bc1 wt1 ma1 mn1 mc1 ia1 in1 ic1 oa1 on1 oc1 en1 cd1 ft1] w fun e w' => e = .returned (.bool (fewS at1 (r1 0) bn1 mn1 in1 on1 bf1)) ∧ Below w.heap.size w w' := by
  have HA : Hid (Below w.heap.size w (w.alloc (.cells (#[.int .i64 at1, .int .u32 (r1 0), .int .u32 (r1 1), .int .u32 (r1 2), .int .u32 (r1 3), .int .u32 (r1 4), .int .u32 (r1 5), .int .u32 (r1 6), .int .u32 (r1 7), .int .u32 (r1 8), .int .u32 (r1 9), .int .u32 (r1 10), .int .u32 (r1 11), .int .u32 (r1 12), .int .u32 (r1 13), .int .u32 (r1 14), .int .u32 (r1 15), .slice ba1 bn1 bc1, .int .i64 wt1, .slice ma1 mn1 mc1, .slice ia1 in1 ic1, .slice oa1 on1 oc1, .bool en1, .int .u32 cd1, .int .i64 ft1]) 32))) := (Below.refl _ w).alloc (Nat.le_refl _) _
  have A1 : At (w.alloc (.cells (#[.int .i64 at1, .int .u32 (r1 0), .int .u32 (r1 1), .int .u32 (r1 2), .int .u32 (r1 3), .int .u32 (r1 4), .int .u32 (r1 5), .int .u32 (r1 6), .int .u32 (r1 7), .int .u32 (r1 8), .int .u32 (r1 9), .int .u32 (r1 10), .int .u32 (r1 11), .int .u32 (r1 12), .int .u32 (r1 13), .int .u32 (r1 14), .int .u32 (r1 15), .slice ba1 bn1 bc1, .int .i64 wt1, .slice ma1 mn1 mc1, .slice ia1 in1 ic1, .slice oa1 on1 oc1, .bool en1, .int .u32 cd1, .int .i64 ft1]) 32)) w.heap.size (#[.int .i64 at1, .int .u32 (r1 0), .int .u32 (r1 1), .int .u32 (r1 2), .int .u32 (r1 3), .int .u32 (r1 4), .int .u32 (r1 5), .int .u32 (r1 6), .int .u32 (r1 7), .int .u32 (r1 8), .int .u32 (r1 9), .int .u32 (r1 10), .int .u32 (r1 11), .int .u32 (r1 12), .int .u32 (r1 13), .int .u32 (r1 14), .int .u32 (r1 15), .slice ba1 bn1 bc1, .int .i64 wt1, .slice ma1 mn1 mc1, .slice ia1 in1 ic1, .slice oa1 on1 oc1, .bool en1, .int .u32 cd1, .int .i64 ft1]) := At.new w _ 32
  have HR : Hid (RowK .i64 (w.alloc (.cells (#[.int .i64 at1, .int .u32 (r1 0), .int .u32 (r1 1), .int .u32 (r1 2), .int .u32 (r1 3), .int .u32 (r1 4), .int .u32 (r1 5), .int .u32 (r1 6), .int .u32 (r1 7), .int .u32 (r1 8), .int .u32 (r1 9), .int .u32 (r1 10), .int .u32 (r1 11), .int .u32 (r1 12), .int .u32 (r1 13), .int .u32 (r1 14), .int .u32 (r1 15), .slice ba1 bn1 bc1, .int .i64 wt1, .slice ma1 mn1 mc1, .slice ia1 in1 ic1, .slice oa1 on1 oc1, .bool en1, .int .u32 cd1, .int .i64 ft1]) 32)) ba1 bn1 bf1) := h1.later HA.out
  have HC : Hid (∀ W, Below (w.alloc (.cells (#[.int .i64 at1, .int .u32 (r1 0), .int .u32 (r1 1), .int .u32 (r1 2), .int .u32 (r1 3), .int .u32 (r1 4), .int .u32 (r1 5), .int .u32 (r1 6), .int .u32 (r1 7), .int .u32 (r1 8), .int .u32 (r1 9), .int .u32 (r1 10), .int .u32 (r1 11), .int .u32 (r1 12), .int .u32 (r1 13), .int .u32 (r1 14), .int .u32 (r1 15), .slice ba1 bn1 bc1, .int .i64 wt1, .slice ma1 mn1 mc1, .slice ia1 in1 ic1, .slice oa1 on1 oc1, .bool en1, .int .u32 cd1, .int .i64 ft1]) 32)).heap.size (w.alloc (.cells (#[.int .i64 at1, .int .u32 (r1 0), .int .u32 (r1 1), .int .u32 (r1 2), .int .u32 (r1 3), .int .u32 (r1 4), .int .u32 (r1 5), .int .u32 (r1 6), .int .u32 (r1 7), .int .u32 (r1 8), .int .u32 (r1 9), .int .u32 (r1 10), .int .u32 (r1 11), .int .u32 (r1 12), .int .u32 (r1 13), .int .u32 (r1 14), .int .u32 (r1 15), .slice ba1 bn1 bc1, .int .i64 wt1, .slice ma1 mn1 mc1, .slice ia1 in1 ic1, .slice oa1 on1 oc1, .bool en1, .int .u32 cd1, .int .i64 ft1]) 32)) W → Calls Tryd.prog 19 #[stateV at1 r1 ba1 bn1 bc1 wt1 ma1 mn1 mc1 ia1 in1 ic1 oa1 on1 oc1 en1 cd1 ft1] W fun e w' => e = .returned (.bool (rightS at1 (r1 0) bn1 bf1)) ∧ Below W.heap.size W w') := fun W hW => right6_any W at1 r1 ba1 bn1 bc1 bf1 wt1 ma1 mn1 mc1 ia1 in1 ic1 oa1 on1 oc1 en1 cd1 ft1 hn.1 (HR.out.later hW)
  have HU : fewS at1 (r1 0) bn1 mn1 in1 on1 bf1 = (rightS at1 (r1 0) bn1 bf1 && decide ((bn1 : Int) ≤ 100) && decide ((mn1 : Int) ≤ 2000) && decide ((in1 : Int) ≤ 500) && decide ((on1 : Int) ≤ 5000)) := rfl
  rw [HU]; clear HU
  generalize rightS at1 (r1 0) bn1 bf1 = R at HC ⊢
  cases R
  · simpa using few6_0 w at1 r1 ba1 bn1 bc1 bf1 wt1 ma1 mn1 mc1 ia1 in1 ic1 oa1 on1 oc1 en1 cd1 ft1 hn HC
  cases d1 : decide ((bn1 : Int) ≤ 100)
  · simpa using few6_1 w at1 r1 ba1 bn1 bc1 bf1 wt1 ma1 mn1 mc1 ia1 in1 ic1 oa1 on1 oc1 en1 cd1 ft1 hn HC d1
  cases d2 : decide ((mn1 : Int) ≤ 2000)
  · simpa using few6_2 w at1 r1 ba1 bn1 bc1 bf1 wt1 ma1 mn1 mc1 ia1 in1 ic1 oa1 on1 oc1 en1 cd1 ft1 hn HC d1 d2
  cases d3 : decide ((in1 : Int) ≤ 500)
  · simpa using few6_3 w at1 r1 ba1 bn1 bc1 bf1 wt1 ma1 mn1 mc1 ia1 in1 ic1 oa1 on1 oc1 en1 cd1 ft1 hn HC d1 d2 d3
  cases d4 : decide ((on1 : Int) ≤ 5000)
  · simpa using few6_4 w at1 r1 ba1 bn1 bc1 bf1 wt1 ma1 mn1 mc1 ia1 in1 ic1 oa1 on1 oc1 en1 cd1 ft1 hn HC d1 d2 d3 d4
  · simpa using few6_5 w at1 r1 ba1 bn1 bc1 bf1 wt1 ma1 mn1 mc1 ia1 in1 ic1 oa1 on1 oc1 en1 cd1 ft1 hn HC d1 d2 d3 d4
end Go.Proofs.YtcibifgbnpcpmaaDoor
