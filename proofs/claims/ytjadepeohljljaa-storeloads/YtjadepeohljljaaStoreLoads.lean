/- For every memory, address and width StoreLoads returns true: of a memory of 2,000 bytes at most the word, the byte, or that it may not be loaded, is what the document's own answer says. No condition. -/
import Derived.Test.YtjadepeohljljaaFrame
import Derived.Test.YtjadepeohljljaaStoreMath
import Derived.WalkKit
import Derived.ProofKit
namespace Go.Proofs.Ytjadepeohljljaa.storeLoads
open Go.ChangeShapes Go.WideShapes Go.ChangeAt Go.RowKit Go.Sort
set_option linter.unusedVariables false

theorem walk (w : World) (y : Int) (a : Option Addr) (n cap : Nat) (f : Nat → Int) (h0 : (Lit.int .i64 y).wf = true ∧ n ≤ cap ∧ cap ≤ maxLen ∧ (a = none → cap = 0) ∧ Bytes w a n f) (a1 : Int) (w1 : (Lit.int .u32 a1).wf = true) (wide : Bool) :
    Calls Try.prog 3 #[memV y a n cap, .int .u32 a1, .bool wide] w fun e w' => e = .returned (.bool true) ∧ Below w.heap.size w w' := by
  obtain ⟨hy, hc, hm, hnil, hB⟩ := h0
  obtain ⟨u0, u1⟩ := wf_u32_bd w1
  have hm' : n ≤ 9223372036854775807 := by unfold maxLen at hm; omega
  have HA : Hid (Below w.heap.size w (w.alloc (.cells #[.int .i64 y, .slice a n cap] 24))) := (Below.refl _ w).alloc (Nat.le_refl _) _
  have HM : Hid (MemAt (w.alloc (.cells #[.int .i64 y, .slice a n cap] 24)) w.heap.size y a n cap) := MemAt.new w y a n cap 24
  have HB : Hid (Bytes (w.alloc (.cells #[.int .i64 y, .slice a n cap] 24)) a n f) := hB.later HA.out
  have HS : Hid (w.heap.size ≤ (w.alloc (.cells #[.int .i64 y, .slice a n cap] 24)).heap.size) := HA.out.size
  by_cases hn : 2000 < n
  · have hn' : (2000 : Int) < n := by omega
    clear hB hm hc hn u0 u1 w1
    go_enter Try.func3, Try.ntmps3
    go_wp2_with (first
      | (go_at_call 8; revert hb1; intro hb1; refine (awake_any _).mono ?_; rintro e w2 ⟨rfl, hb2⟩)
      | (go_at_call 8; refine (awake_any _).mono ?_; rintro e w1 ⟨rfl, hb1⟩; have Q1 := HM.out.later hb1; obtain ⟨x0, x1⟩ := id Q1))
    go_ret
    exact ⟨rfl, bnext (HA.out.trans (hb1.mono HS.out)) hb2⟩
  · have hn' : (n : Int) ≤ 2000 := by omega
    have L1 : Hid (∀ W, Bytes W a n f → Calls Try.prog 9 #[memV y a n cap, .int .u32 a1, .bool wide] W fun e w' => e = .returned (.tuple #[.int .u32 (if okB n a1 wide = true then loadZ f a1 wide else 0), .bool (okB n a1 wide)]) ∧ Below W.heap.size W w') := fun W hW => load_any y a1 wide a n cap f W (by omega) hc u0 u1 hW
    have L2 : Hid (∀ W, Bytes W a n f → Calls Try.prog 10 #[memV y a n cap, .int .u32 a1, .bool wide] W fun e w' => e = .returned (.tuple #[.int .u32 (if okB n a1 wide = true then loadZ f a1 wide else 0), .bool (okB n a1 wide)]) ∧ Below W.heap.size W w') := fun W hW => rload_any y a1 wide a n cap f W (by omega) hc u0 u1 hW
    generalize (if okB n a1 wide = true then loadZ f a1 wide else 0) = v at L1 L2
    generalize okB n a1 wide = ok at L1 L2
    clear hB hm hc hn u0 u1 w1
    go_enter Try.func3, Try.ntmps3
    go_wp2_with (first
      | (go_at_call 8; refine (awake_any _).mono ?_; rintro e w1 ⟨rfl, hb1⟩; have Q1 := HM.out.later hb1; obtain ⟨x0, x1⟩ := id Q1)
      | (go_at_call 9; refine (L1.out _ (HB.out.later hb1)).mono ?_; rintro e w2 ⟨rfl, hb2⟩; have Q2 := Q1.later hb2; obtain ⟨y0, y1⟩ := id Q2)
      | (go_at_call 10; refine (L2.out _ ((HB.out.later hb1).later hb2)).mono ?_; rintro e w3 ⟨rfl, hb3⟩))
    go_ret
    exact ⟨ret_bool (by simp), bnext (bnext (HA.out.trans (hb1.mono HS.out)) hb2) hb3⟩

/-! ### The row's step -/
set_option maxRecDepth 100000 in
theorem lifted (os : Os) (started : os.Started) (H : Type) (enc : TypeId × Value → H) :
    ReturnsInHanded {} Try.checked os 3 .any (Rows.storeLoadsSpec.pre6 enc Try.prog Try.f3 Rows.storeLoadsRow.domain false) (Rows.storeLoadsSpec.post enc Try.prog Try.f3 false true false false) := by
  refine returnsInHanded_of_change (C := Try.checked) own started (by kernel_rfl) Try.func3
    (ChangeSpec.witness6 (enc := enc) (C := Try.checked) false ⟨#[], #[.agg #[.int .i64 0, .slice none 0 0], .int .u32 0, .bool false], []⟩ 8 (by kernel_rfl) (by kernel_rfl) (by kernel_rfl) (by kernel_rfl)) ?_
  intro W base args ds gs before hval0 hW hcnd _
  have hval : ∀ (j : Nat) t v, Try.f3.params[j]? = some t → args[j]? = some v → Value.okWide Try.prog W .any base t v := hval0
  have hW' := hW
  obtain ⟨p, q, hA0, hV, rfl, hfz, hnd⟩ := hW
  have hA : DataW.TrodAll enc Try.prog W 0 (fun _ => true) true Try.f3.params.toList args.toList ds p := hA0
  rw [Try.params3] at hA hval
  obtain ⟨v0, vs0, d0, ds0, p0, q0, hargs, rfl, rfl, h0, r0⟩ := trodAll_cons hA
  obtain ⟨v1, vs1, d1, ds1, p1, q1, rfl, rfl, rfl, h1, r1⟩ := trodAll_cons r0
  obtain ⟨v2, vs2, d2, ds2, p2, q2, rfl, rfl, rfl, h2, r2⟩ := trodAll_cons r1
  obtain ⟨rfl, rfl, rfl⟩ := trodAll_nil r2
  obtain rfl : args = #[v0, v1, v2] := by cases args; simp_all
  obtain ⟨rfl, rfl⟩ := trodVars_none hV
  have k0 := h0
  have lt0 : ∀ x ∈ p0, x.block < W.heap.size := by obtain ⟨m, hm⟩ := k0; exact DataW.trod_lt m _ _ _ hm
  obtain ⟨y0, a0, n0, c0, f0, rfl, w0⟩ := open_mem (hval 0 24 v0 rfl rfl) h0
  obtain ⟨a1, rfl, rfl, rfl, w1⟩ := open_int Try.underlying25 (hval 1 25 v1 rfl rfl) h1
  obtain ⟨a2, rfl, rfl, rfl⟩ := open_bool Try.underlying4 (hval 2 4 v2 rfl rfl) h2
  clear hA0 hval0
  refine (walk W y0 a0 n0 c0 f0 w0 a1 w1 a2).mono fun e W' ⟨he, bel⟩ => ?_
  subst he
  exact ⟨_, rfl, _, _, _, [], _, [], hW', trodAll_mk1 (shut_bool Try.underlying4 _), (trodAll_cons_mk (Below.trod laidOut (by kernel_rfl) (of_decide_eq_true (by kernel_rfl)) k0 bel lt0) (trodAll_cons_mk (shut_int Try.underlying25 w1) (trodAll_cons_mk (shut_bool Try.underlying4 _) trodAll_mk0))), rfl, bel.frame _, fun h => by cases h⟩

theorem over : Rows.StoreLoadsSaid :=
  OpenClaim.holds_of_wide 3 Try.f3 rfl rfl rfl rfl rfl rfl rfl ⟨rfl, rfl, rfl, rfl, rfl⟩ rfl rfl rfl rfl rfl (by kernel_rfl) Try.func3 (by kernel_rfl)
    (of_decide_eq_true (by kernel_rfl)) (by unfold Func.isWrapper; first | (rw [if_pos (by decide +kernel)]; kernel_rfl) | (rw [if_neg (by decide +kernel)]; exact ⟨rfl, rfl⟩))
    (fun os started H enc _ => lifted os started H enc)
end Go.Proofs.Ytjadepeohljljaa.storeLoads

namespace Go.Proofs.Ytjadepeohljljaa
theorem StoreLoads_holds : Rows.StoreLoadsSaid := storeLoads.over
#print axioms StoreLoads_holds
end Go.Proofs.Ytjadepeohljljaa
