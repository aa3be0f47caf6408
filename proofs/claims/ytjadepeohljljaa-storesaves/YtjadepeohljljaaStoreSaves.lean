/- For every memory, address, word and width StoreSaves returns true: of a memory of 2,000 bytes at most the memory then, or that it may not be saved, is what the document's own answer says. No condition. -/
import Derived.Test.YtjadepeohljljaaFrame
import Derived.Test.YtjadepeohljljaaStoreMath
import Derived.WalkKit
import Derived.ProofKit
namespace Go.Proofs.Ytjadepeohljljaa.storeSaves
open Go.ChangeShapes Go.WideShapes Go.ChangeAt Go.RowKit Go.Sort
set_option linter.unusedVariables false

theorem walk (w : World) (y : Int) (a : Option Addr) (n cap : Nat) (f : Nat → Int) (h0 : (Lit.int .i64 y).wf = true ∧ n ≤ cap ∧ cap ≤ maxLen ∧ (a = none → cap = 0) ∧ Bytes w a n f) (a1 : Int) (w1 : (Lit.int .u32 a1).wf = true) (a2 : Int) (w2 : (Lit.int .u32 a2).wf = true) (wide : Bool) :
    Calls Try.prog 4 #[memV y a n cap, .int .u32 a1, .int .u32 a2, .bool wide] w fun e w' => e = .returned (.bool true) ∧ Below w.heap.size w w' := by
  obtain ⟨hy, hc, hm, hnil, hB⟩ := h0
  obtain ⟨u0, u1⟩ := wf_u32_bd w1
  obtain ⟨v0, v1⟩ := wf_u32_bd w2
  have hm' : n ≤ 9223372036854775807 := by unfold maxLen at hm; omega
  have HA : Hid (Below w.heap.size w (w.alloc (.cells #[.int .i64 y, .slice a n cap] 24))) := (Below.refl _ w).alloc (Nat.le_refl _) _
  have HM : Hid (MemAt (w.alloc (.cells #[.int .i64 y, .slice a n cap] 24)) w.heap.size y a n cap) := MemAt.new w y a n cap 24
  have HB : Hid (Bytes (w.alloc (.cells #[.int .i64 y, .slice a n cap] 24)) a n f) := hB.later HA.out
  have HS : Hid (w.heap.size ≤ (w.alloc (.cells #[.int .i64 y, .slice a n cap] 24)).heap.size) := HA.out.size
  by_cases hn : 2000 < n
  · have hn' : (2000 : Int) < n := by omega
    clear hB hm hc hn u0 u1 v0 v1 w1 w2
    go_enter Try.func4, Try.ntmps4
    go_wp2_with (first
      | (go_at_call 8; revert hb1; intro hb1; refine (awake_any _).mono ?_; rintro e w2 ⟨rfl, hb2⟩)
      | (go_at_call 8; refine (awake_any _).mono ?_; rintro e w1 ⟨rfl, hb1⟩; have Q1 := HM.out.later hb1; obtain ⟨x0, x1⟩ := id Q1))
    go_ret
    exact ⟨rfl, bnext (HA.out.trans (hb1.mono HS.out)) hb2⟩
  have hn' : (n : Int) ≤ 2000 := by omega
  have hn2 : n ≤ 2000 := by omega
  cases hs : saveB n a1 wide y
  · have L1 : Hid (∀ W, Bytes W a n f → SaveNo Try.prog 11 y a1 a2 wide a n cap W) := fun W hW => save_no y a1 a2 wide a n cap f W hn2 hc hy u0 u1 hW hs
    have L2 : Hid (∀ W, Bytes W a n f → SaveNo Try.prog 12 y a1 a2 wide a n cap W) := fun W hW => rsave_no y a1 a2 wide a n cap f W hn2 hc hy u0 u1 hW hs
    have L3 : Hid (∀ W, Bytes W a n f → Calls Try.prog 13 #[memV y a n cap, memV y a n cap] W fun e w' => e = .returned (.bool true) ∧ Below W.heap.size W w') := fun W hW => rsame_any W y a a n cap cap f hn2 hW hW
    clear hB hm hc hn u0 u1 v0 v1 w1 w2 hs
    go_enter Try.func4, Try.ntmps4
    go_wp2_with (first
      | (go_at_call 8; refine (awake_any _).mono ?_; rintro e w1 ⟨rfl, hb1⟩; have Q1 := HM.out.later hb1; obtain ⟨x0, x1⟩ := id Q1)
      | (go_at_call 11; refine (L1.out _ (HB.out.later hb1)).mono ?_; rintro e w2 ⟨rfl, hb2⟩; have A2 : Below w2.heap.size w2 (w2.alloc (.cells #[.int .i64 y, .slice a n cap] 24)) := (Below.refl _ _).alloc (Nat.le_refl _) _; have Q2 := (Q1.later hb2).later A2; obtain ⟨y0, y1⟩ := id Q2; have N2 := MemAt.new w2 y a n cap 24; obtain ⟨n0, n1⟩ := id N2)
      | (go_at_call 12; refine (L2.out _ (((HB.out.later hb1).later hb2).later A2)).mono ?_; rintro e w3 ⟨rfl, hb3⟩; have A3 : Below w3.heap.size w3 (w3.alloc (.cells #[.int .i64 y, .slice a n cap] 24)) := (Below.refl _ _).alloc (Nat.le_refl _) _; have N3 := (N2.later hb3).later A3; obtain ⟨p0, p1⟩ := id N3; have M3 := MemAt.new w3 y a n cap 24; obtain ⟨m0, m1⟩ := id M3)
      | (go_at_call 13; refine (L3.out _ (((((HB.out.later hb1).later hb2).later A2).later hb3).later A3)).mono ?_; rintro e w4 ⟨rfl, hb4⟩))
    go_ret
    exact ⟨rfl, bnext (bnext (bnext (bnext (bnext (HA.out.trans (hb1.mono HS.out)) hb2) A2) hb3) A3) hb4⟩
  · have L1 : Hid (∀ W, Bytes W a n f → Calls Try.prog 11 #[memV y a n cap, .int .u32 a1, .int .u32 a2, .bool wide] W fun e w' => ∃ g cap', e = .returned (.tuple #[memV y (some ⟨g, 0, none⟩) n cap', .bool true]) ∧ W.heap.size ≤ g ∧ n ≤ cap' ∧ RowB w' g n (savedF f a1 a2 wide) ∧ Below W.heap.size W w') := fun W hW => save_yes y a1 a2 wide a n cap f W hn2 hc hy u0 u1 v0 v1 hW hs
    have L2 : Hid (∀ W, Bytes W a n f → Calls Try.prog 12 #[memV y a n cap, .int .u32 a1, .int .u32 a2, .bool wide] W fun e w' => ∃ g cap', e = .returned (.tuple #[memV y (some ⟨g, 0, none⟩) n cap', .bool true]) ∧ W.heap.size ≤ g ∧ n ≤ cap' ∧ RowB w' g n (savedF f a1 a2 wide) ∧ Below W.heap.size W w') := fun W hW => rsave_any y a1 a2 wide a n cap f W hn2 hc hy u0 u1 v0 v1 hW hs
    have HF : Hid (∀ k, 0 ≤ savedF f a1 a2 wide k ∧ savedF f a1 a2 wide k < 256) := saved_bd f hB.1 a1 a2 wide
    generalize savedF f a1 a2 wide = F at HF L1 L2
    have L3 : Hid (∀ W b c c1 c2, Bytes W b n F → Bytes W c n F → Calls Try.prog 13 #[memV y b n c1, memV y c n c2] W fun e w' => e = .returned (.bool true) ∧ Below W.heap.size W w') := fun W b c c1 c2 g1 g2 => rsame_any W y b c n c1 c2 F hn2 g1 g2
    clear hB hm hc hn u0 u1 v0 v1 w1 w2 hs
    go_enter Try.func4, Try.ntmps4
    go_wp2_with (first
      | (go_at_call 8; refine (awake_any _).mono ?_; rintro e w1 ⟨rfl, hb1⟩; have Q1 := HM.out.later hb1; obtain ⟨x0, x1⟩ := id Q1)
      | (go_at_call 11; refine (L1.out _ (HB.out.later hb1)).mono ?_; rintro e w2 ⟨g, c2, rfl, hg, hc2, hr2, hb2⟩; have A2 : Below w2.heap.size w2 (w2.alloc (.cells #[.int .i64 y, .slice (some ⟨g, 0, none⟩) n c2] 24)) := (Below.refl _ _).alloc (Nat.le_refl _) _; have Q2 := (Q1.later hb2).later A2; obtain ⟨y0, y1⟩ := id Q2; have N2 := MemAt.new w2 y (some ⟨g, 0, none⟩) n c2 24; obtain ⟨n0, n1⟩ := id N2)
      | (go_at_call 12; refine (L2.out _ (((HB.out.later hb1).later hb2).later A2)).mono ?_; rintro e w3 ⟨g3, c3, rfl, hg3, hc3, hr3, hb3⟩; have A3 : Below w3.heap.size w3 (w3.alloc (.cells #[.int .i64 y, .slice (some ⟨g3, 0, none⟩) n c3] 24)) := (Below.refl _ _).alloc (Nat.le_refl _) _; have N3 := (N2.later hb3).later A3; obtain ⟨p0, p1⟩ := id N3; have M3 := MemAt.new w3 y (some ⟨g3, 0, none⟩) n c3 24; obtain ⟨m0, m1⟩ := id M3)
      | (go_at_call 13; refine (L3.out _ _ _ _ _ (bytes_of_rowB (((hr2.later A2).later hb3).later A3) HF.out) (bytes_of_rowB (hr3.later A3) HF.out)).mono ?_; rintro e w4 ⟨rfl, hb4⟩))
    go_ret
    exact ⟨rfl, bnext (bnext (bnext (bnext (bnext (HA.out.trans (hb1.mono HS.out)) hb2) A2) hb3) A3) hb4⟩

/-! ### The row's step -/
set_option maxRecDepth 100000 in
theorem lifted (os : Os) (started : os.Started) (H : Type) (enc : TypeId × Value → H) :
    ReturnsInHanded {} Try.checked os 4 .any (Rows.storeSavesSpec.pre6 enc Try.prog Try.f4 Rows.storeSavesRow.domain false) (Rows.storeSavesSpec.post enc Try.prog Try.f4 false true false false) := by
  refine returnsInHanded_of_change (C := Try.checked) own started (by kernel_rfl) Try.func4
    (ChangeSpec.witness6 (enc := enc) (C := Try.checked) false ⟨#[], #[.agg #[.int .i64 0, .slice none 0 0], .int .u32 0, .int .u32 0, .bool false], []⟩ 8 (by kernel_rfl) (by kernel_rfl) (by kernel_rfl) (by kernel_rfl)) ?_
  intro W base args ds gs before hval0 hW hcnd _
  have hval : ∀ (j : Nat) t v, Try.f4.params[j]? = some t → args[j]? = some v → Value.okWide Try.prog W .any base t v := hval0
  have hW' := hW
  obtain ⟨p, q, hA0, hV, rfl, hfz, hnd⟩ := hW
  have hA : DataW.TrodAll enc Try.prog W 0 (fun _ => true) true Try.f4.params.toList args.toList ds p := hA0
  rw [Try.params4] at hA hval
  obtain ⟨v0, vs0, d0, ds0, p0, q0, hargs, rfl, rfl, h0, r0⟩ := trodAll_cons hA
  obtain ⟨v1, vs1, d1, ds1, p1, q1, rfl, rfl, rfl, h1, r1⟩ := trodAll_cons r0
  obtain ⟨v2, vs2, d2, ds2, p2, q2, rfl, rfl, rfl, h2, r2⟩ := trodAll_cons r1
  obtain ⟨v3, vs3, d3, ds3, p3, q3, rfl, rfl, rfl, h3, r3⟩ := trodAll_cons r2
  obtain ⟨rfl, rfl, rfl⟩ := trodAll_nil r3
  obtain rfl : args = #[v0, v1, v2, v3] := by cases args; simp_all
  obtain ⟨rfl, rfl⟩ := trodVars_none hV
  have k0 := h0
  have lt0 : ∀ x ∈ p0, x.block < W.heap.size := by obtain ⟨m, hm⟩ := k0; exact DataW.trod_lt m _ _ _ hm
  obtain ⟨y0, a0, n0, c0, f0, rfl, w0⟩ := open_mem (hval 0 24 v0 rfl rfl) h0
  obtain ⟨a1, rfl, rfl, rfl, w1⟩ := open_int Try.underlying25 (hval 1 25 v1 rfl rfl) h1
  obtain ⟨a2, rfl, rfl, rfl, w2⟩ := open_int Try.underlying25 (hval 2 25 v2 rfl rfl) h2
  obtain ⟨a3, rfl, rfl, rfl⟩ := open_bool Try.underlying4 (hval 3 4 v3 rfl rfl) h3
  clear hA0 hval0
  refine (walk W y0 a0 n0 c0 f0 w0 a1 w1 a2 w2 a3).mono fun e W' ⟨he, bel⟩ => ?_
  subst he
  exact ⟨_, rfl, _, _, _, [], _, [], hW', trodAll_mk1 (shut_bool Try.underlying4 _), (trodAll_cons_mk (Below.trod laidOut (by kernel_rfl) (of_decide_eq_true (by kernel_rfl)) k0 bel lt0) (trodAll_cons_mk (shut_int Try.underlying25 w1) (trodAll_cons_mk (shut_int Try.underlying25 w2) (trodAll_cons_mk (shut_bool Try.underlying4 _) trodAll_mk0)))), rfl, bel.frame _, fun h => by cases h⟩

theorem over : Rows.StoreSavesSaid :=
  OpenClaim.holds_of_wide 4 Try.f4 rfl rfl rfl rfl rfl rfl rfl ⟨rfl, rfl, rfl, rfl, rfl⟩ rfl rfl rfl rfl rfl (by kernel_rfl) Try.func4 (by kernel_rfl)
    (of_decide_eq_true (by kernel_rfl)) (by unfold Func.isWrapper; first | (rw [if_pos (by decide +kernel)]; kernel_rfl) | (rw [if_neg (by decide +kernel)]; exact ⟨rfl, rfl⟩))
    (fun os started H enc _ => lifted os started H enc)
end Go.Proofs.Ytjadepeohljljaa.storeSaves

namespace Go.Proofs.Ytjadepeohljljaa
theorem StoreSaves_holds : Rows.StoreSavesSaid := storeSaves.over
#print axioms StoreSaves_holds
end Go.Proofs.Ytjadepeohljljaa
