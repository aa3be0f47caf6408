/- For all bytes and every list of acts ScanActs returns true: each act takes the piece that stands there, and Try answers the first error that is met, or that something is left. No condition. -/
import Derived.Test.YtgnokbmhbeeblaaFrame
import Derived.Test.YtgnokbmhbeeblaaScanActsW
import Derived.Test.YtgnokbmhbeeblaaScanFrame
import Derived.WalkKit
import Derived.ProofKit
namespace Go.Proofs.Ytgnokbmhbeeblaa.scanActs
open Go.ChangeShapes Go.WideShapes Go.ChangeAt Go.RowKit Go.Sort
set_option linter.unusedVariables false

theorem walk (w : World) (ba : Option Addr) (n bc : Nat) (f : Nat → Int) (hb : n ≤ bc ∧ bc ≤ maxLen ∧ (ba = none → bc = 0) ∧ RowK .u8 w ba n f) (la : Option Addr) (ln lc : Nat) (D X : Nat → Int) (hl : ln ≤ lc ∧ lc ≤ maxLen ∧ (la = none → lc = 0) ∧ Acts w la ln D X) :
    Calls Try.prog 3 #[.slice ba n bc, .slice la ln lc] w fun e w' => e = .returned (.bool true) ∧ Below w.heap.size w w' := by
  obtain ⟨h1, h2, h3, h4⟩ := hb
  obtain ⟨l1, l2, l3, l4⟩ := hl
  unfold maxLen at h2 l2
  refine acts_walk w ba n bc f ⟨h1, h3⟩ (bytes_of_rowK h4) la ln lc D X ⟨l1, l3⟩ l4 (by omega) (by omega) (fun h0 x e => ?_) (fun h0 x e => ?_)
  · obtain ⟨-, h | ⟨b, off, e2, hc⟩⟩ := h4
    · exact absurd h h0
    · rw [e] at e2; simp only [Option.some.injEq] at e2; subst e2
      exact World.block_lt_of_cell? w ⟨b, off + 0, none⟩ (hc 0 (by omega))
  · obtain h | ⟨b, off, e2, hc⟩ := l4
    · exact absurd h h0
    · rw [e] at e2; simp only [Option.some.injEq] at e2; subst e2
      exact World.block_lt_of_cell? w ⟨b, off + 0 * 2, none⟩ (hc 0 (by omega)).1

/-! ### The row's step -/
set_option maxRecDepth 100000 in
theorem lifted (os : Os) (started : os.Started) (H : Type) (enc : TypeId × Value → H) :
    ReturnsInHanded {} Try.checked os 3 .any (Rows.scanActsSpec.pre6 enc Try.prog Try.f3 Rows.scanActsRow.domain false) (Rows.scanActsSpec.post enc Try.prog Try.f3 false true false false) := by
  refine returnsInHanded_of_change (C := Try.checked) own started (by kernel_rfl) Try.func3
    (ChangeSpec.witness6 (enc := enc) (C := Try.checked) false ⟨#[], #[.slice none 0 0, .slice none 0 0], []⟩ 8 (by kernel_rfl) (by kernel_rfl) (by kernel_rfl) (by kernel_rfl)) ?_
  intro W base args ds gs before hval0 hW hcnd _
  have hval : ∀ (j : Nat) t v, Try.f3.params[j]? = some t → args[j]? = some v → Value.okWide Try.prog W .any base t v := hval0
  have hW' := hW
  obtain ⟨p, q, hA0, hV, rfl, hfz, hnd⟩ := hW
  have hA : DataW.TrodAll enc Try.prog W 0 (fun _ => true) true Try.f3.params.toList args.toList ds p := hA0
  rw [Try.params3] at hA hval
  obtain ⟨v0, vs0, d0, ds0, p0, q0, hargs, rfl, rfl, h0, r0⟩ := trodAll_cons hA
  obtain ⟨v1, vs1, d1, ds1, p1, q1, rfl, rfl, rfl, h1, r1⟩ := trodAll_cons r0
  obtain ⟨rfl, rfl, rfl⟩ := trodAll_nil r1
  obtain rfl : args = #[v0, v1] := by cases args; simp_all
  obtain ⟨rfl, rfl⟩ := trodVars_none hV
  have k0 := h0
  have lt0 : ∀ x ∈ p0, x.block < W.heap.size := by obtain ⟨m, hm⟩ := k0; exact DataW.trod_lt m _ _ _ hm
  obtain ⟨a0, n0, c0, f0, rfl, w0⟩ := open_sl Try.underlying22 Try.underlying5 (by kernel_rfl) (hval 0 22 v0 rfl rfl) h0
  have k1 := h1
  have lt1 : ∀ x ∈ p1, x.block < W.heap.size := by obtain ⟨m, hm⟩ := k1; exact DataW.trod_lt m _ _ _ hm
  obtain ⟨a1, n1, c1, D1, X1, rfl, w1⟩ := open_acts (hval 1 23 v1 rfl rfl) h1
  clear hA0 hval0
  refine (walk W a0 n0 c0 f0 w0 a1 n1 c1 D1 X1 w1).mono fun e W' ⟨he, bel⟩ => ?_
  subst he
  exact ⟨_, rfl, _, _, _, [], _, [], hW', trodAll_mk1 (shut_bool Try.underlying4 _), (trodAll_cons_mk (Below.trod laidOut (by kernel_rfl) (of_decide_eq_true (by kernel_rfl)) k0 bel lt0) (trodAll_cons_mk (Below.trod laidOut (by kernel_rfl) (of_decide_eq_true (by kernel_rfl)) k1 bel lt1) trodAll_mk0)), rfl, bel.frame _, fun h => by cases h⟩

theorem over : Rows.ScanActsSaid :=
  OpenClaim.holds_of_wide 3 Try.f3 rfl rfl rfl rfl rfl rfl rfl ⟨rfl, rfl, rfl, rfl, rfl⟩ rfl rfl rfl rfl rfl (by kernel_rfl) Try.func3 (by kernel_rfl)
    (of_decide_eq_true (by kernel_rfl)) (by unfold Func.isWrapper; first | (rw [if_pos (by decide +kernel)]; kernel_rfl) | (rw [if_neg (by decide +kernel)]; exact ⟨rfl, rfl⟩))
    (fun os started H enc _ => lifted os started H enc)
end Go.Proofs.Ytgnokbmhbeeblaa.scanActs

namespace Go.Proofs.Ytgnokbmhbeeblaa
theorem ScanActs_holds : Rows.ScanActsSaid := scanActs.over
#print axioms ScanActs_holds
end Go.Proofs.Ytgnokbmhbeeblaa
