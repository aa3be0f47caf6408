/- For every memory, two addresses and two words StoreApart returns true: of a memory of 2,000 bytes at most two words that are saved at places that are apart are both there; saved at one place the second one is. No condition. -/
import Derived.Test.YtjadepeohljljaaFrame
import Derived.Test.YtjadepeohljljaaStoreMath
import Derived.WalkKit
import Derived.ProofKit
namespace Go.Proofs.Ytjadepeohljljaa.storeApart
open Go.ChangeShapes Go.WideShapes Go.ChangeAt Go.RowKit Go.Sort
set_option linter.unusedVariables false

set_option maxHeartbeats 1000000 in
theorem walk (w : World) (y : Int) (a : Option Addr) (n cap : Nat) (f : Nat → Int) (h0 : (Lit.int .i64 y).wf = true ∧ n ≤ cap ∧ cap ≤ maxLen ∧ (a = none → cap = 0) ∧ Bytes w a n f) (a1 : Int) (w1 : (Lit.int .u32 a1).wf = true) (a2 : Int) (w2 : (Lit.int .u32 a2).wf = true) (a3 : Int) (w3 : (Lit.int .u32 a3).wf = true) (a4 : Int) (w4 : (Lit.int .u32 a4).wf = true) :
    Calls Try.prog 7 #[memV y a n cap, .int .u32 a1, .int .u32 a2, .int .u32 a3, .int .u32 a4] w fun e w' => e = .returned (.bool true) ∧ Below w.heap.size w w' := by
  obtain ⟨hy, hc, hm, hnil, hB⟩ := h0
  obtain ⟨u0, u1⟩ := wf_u32_bd w1
  obtain ⟨v0, v1⟩ := wf_u32_bd w2
  obtain ⟨x0, x1⟩ := wf_u32_bd w3
  obtain ⟨y0, y1⟩ := wf_u32_bd w4
  have hm' : n ≤ 9223372036854775807 := by unfold maxLen at hm; omega
  have HA : Hid (Below w.heap.size w (w.alloc (.cells #[.int .i64 y, .slice a n cap] 24))) := (Below.refl _ w).alloc (Nat.le_refl _) _
  have HM : Hid (MemAt (w.alloc (.cells #[.int .i64 y, .slice a n cap] 24)) w.heap.size y a n cap) := MemAt.new w y a n cap 24
  have HB : Hid (Bytes (w.alloc (.cells #[.int .i64 y, .slice a n cap] 24)) a n f) := hB.later HA.out
  have HS : Hid (w.heap.size ≤ (w.alloc (.cells #[.int .i64 y, .slice a n cap] 24)).heap.size) := HA.out.size
  by_cases hn : 2000 < n
  · have hn' : (2000 : Int) < n := by omega
    clear hB hm hc hn u0 u1 v0 v1 x0 x1 y0 y1 w1 w2 w3 w4
    go_enter Try.func7, Try.ntmps7
    go_wp2_with (first
      | (go_at_call 8; revert hb1; intro hb1; refine (awake_any _).mono ?_; rintro e w2 ⟨rfl, hb2⟩)
      | (go_at_call 8; refine (awake_any _).mono ?_; rintro e w1 ⟨rfl, hb1⟩; have Q1 := HM.out.later hb1; obtain ⟨q0, q1⟩ := id Q1))
    go_ret
    exact ⟨rfl, bnext (HA.out.trans (hb1.mono HS.out)) hb2⟩
  have hn' : (n : Int) ≤ 2000 := by omega
  have hn2 : n ≤ 2000 := by omega
  cases hs : saveB n a1 true y
  · have L1 : Hid (∀ W, Bytes W a n f → SaveNo Try.prog 11 y a1 a3 true a n cap W) := fun W hW => save_no y a1 a3 true a n cap f W hn2 hc hy u0 u1 hW hs
    have L2 : Hid (∀ W, Bytes W a n f → Calls Try.prog 11 #[memV y a n cap, .int .u32 a2, .int .u32 a4, .bool true] W fun e w' => ∃ a' c', e = .returned (.tuple #[memV y a' n c', .bool (saveB n a2 true y)]) ∧ Below W.heap.size W w') := fun W hW => save_some y a2 a4 true a n cap f W hn2 hc hy v0 v1 y0 y1 hW
    generalize saveB n a2 true y = two at L2
    clear hB hm hc hn u0 u1 v0 v1 x0 x1 y0 y1 w1 w2 w3 w4 hs
    go_enter Try.func7, Try.ntmps7
    go_wp2_with (first
      | (go_at_call 8; refine (awake_any _).mono ?_; rintro e w1 ⟨rfl, hb1⟩; have Q1 := HM.out.later hb1; obtain ⟨q0, q1⟩ := id Q1)
      | (go_at_call 11; revert hb2; intro hb2; refine (L2.out _ (((HB.out.later hb1).later hb2).later A2)).mono ?_; rintro e w3 ⟨b3, c3, rfl, hb3⟩; have A3 : Below w3.heap.size w3 (w3.alloc (.cells #[.int .i64 y, .slice b3 n c3] 24)) := (Below.refl _ _).alloc (Nat.le_refl _) _; have N3 := MemAt.new w3 y b3 n c3 24; obtain ⟨n30, n31⟩ := id N3)
      | (go_at_call 11; refine (L1.out _ (HB.out.later hb1)).mono ?_; rintro e w2 ⟨rfl, hb2⟩; have A2 : Below w2.heap.size w2 (w2.alloc (.cells #[.int .i64 y, .slice a n cap] 24)) := (Below.refl _ _).alloc (Nat.le_refl _) _; have N2 := MemAt.new w2 y a n cap 24; obtain ⟨n20, n21⟩ := id N2))
    go_ret
    exact ⟨rfl, bnext (bnext (bnext (bnext (HA.out.trans (hb1.mono HS.out)) hb2) A2) hb3) A3⟩
  have L1 : Hid (∀ W, Bytes W a n f → Calls Try.prog 11 #[memV y a n cap, .int .u32 a1, .int .u32 a3, .bool true] W fun e w' => ∃ g cap', e = .returned (.tuple #[memV y (some ⟨g, 0, none⟩) n cap', .bool true]) ∧ W.heap.size ≤ g ∧ n ≤ cap' ∧ RowB w' g n (savedF f a1 a3 true) ∧ Below W.heap.size W w') := fun W hW => save_yes y a1 a3 true a n cap f W hn2 hc hy u0 u1 x0 x1 hW hs
  have HF1 : Hid (∀ k, 0 ≤ savedF f a1 a3 true k ∧ savedF f a1 a3 true k < 256) := saved_bd f hB.1 a1 a3 true
  cases hs2 : saveB n a2 true y
  · have L2 : Hid (∀ W g c, n ≤ c → Bytes W (some ⟨g, 0, none⟩) n (savedF f a1 a3 true) → SaveNo Try.prog 11 y a2 a4 true (some ⟨g, 0, none⟩) n c W) := fun W g c hc2 hW => save_no y a2 a4 true _ n c _ W hn2 hc2 hy v0 v1 hW hs2
    generalize savedF f a1 a3 true = F at L1 L2 HF1
    clear hB hm hc hn u0 u1 v0 v1 x0 x1 y0 y1 w1 w2 w3 w4 hs hs2
    go_enter Try.func7, Try.ntmps7
    go_wp2_with (first
      | (go_at_call 8; refine (awake_any _).mono ?_; rintro e w1 ⟨rfl, hb1⟩; have Q1 := HM.out.later hb1; obtain ⟨q0, q1⟩ := id Q1)
      | (go_at_call 11; revert hb2; intro hb2; refine (L2.out _ _ _ hc2 (bytes_of_rowB (hr2.later A2) HF1.out)).mono ?_; rintro e w3 ⟨rfl, hb3⟩; have A3 : Below w3.heap.size w3 (w3.alloc (.cells #[.int .i64 y, .slice (some ⟨g, 0, none⟩) n c2] 24)) := (Below.refl _ _).alloc (Nat.le_refl _) _; have N3 := MemAt.new w3 y (some ⟨g, 0, none⟩) n c2 24; obtain ⟨n30, n31⟩ := id N3)
      | (go_at_call 11; refine (L1.out _ (HB.out.later hb1)).mono ?_; rintro e w2 ⟨g, c2, rfl, hg, hc2, hr2, hb2⟩; have A2 : Below w2.heap.size w2 (w2.alloc (.cells #[.int .i64 y, .slice (some ⟨g, 0, none⟩) n c2] 24)) := (Below.refl _ _).alloc (Nat.le_refl _) _; have N2 := MemAt.new w2 y (some ⟨g, 0, none⟩) n c2 24; obtain ⟨n20, n21⟩ := id N2))
    go_ret
    exact ⟨rfl, bnext (bnext (bnext (bnext (HA.out.trans (hb1.mono HS.out)) hb2) A2) hb3) A3⟩
  obtain ⟨ok1, _⟩ := save_ok hs
  obtain ⟨ok2, _⟩ := save_ok hs2
  have L2 : Hid (∀ W g c, n ≤ c → Bytes W (some ⟨g, 0, none⟩) n (savedF f a1 a3 true) → Calls Try.prog 11 #[memV y (some ⟨g, 0, none⟩) n c, .int .u32 a2, .int .u32 a4, .bool true] W fun e w' => ∃ g' cap', e = .returned (.tuple #[memV y (some ⟨g', 0, none⟩) n cap', .bool true]) ∧ W.heap.size ≤ g' ∧ n ≤ cap' ∧ RowB w' g' n (savedF (savedF f a1 a3 true) a2 a4 true) ∧ Below W.heap.size W w') := fun W g c hc2 hW => save_yes y a2 a4 true _ n c _ W hn2 hc2 hy v0 v1 y0 y1 hW hs2
  have HF2 : Hid (∀ k, 0 ≤ savedF (savedF f a1 a3 true) a2 a4 true k ∧ savedF (savedF f a1 a3 true) a2 a4 true k < 256) := saved_bd _ HF1.out a2 a4 true
  have L3 : Hid (∀ W g c, n ≤ c → Bytes W (some ⟨g, 0, none⟩) n (savedF (savedF f a1 a3 true) a2 a4 true) → Calls Try.prog 9 #[memV y (some ⟨g, 0, none⟩) n c, .int .u32 a1, .bool true] W fun e w' => e = .returned (.tuple #[.int .u32 (if a1 = a2 then a4 else a3), .bool true]) ∧ Below W.heap.size W w') := by
    intro W g c hc2 hW
    have h := load_any y a1 true _ n c _ W hn2 hc2 u0 u1 hW
    have e : loadZ (savedF (savedF f a1 a3 true) a2 a4 true) a1 true = if a1 = a2 then a4 else a3 := by
      by_cases h : a1 = a2
      · rw [if_pos h, h]; exact load_saved _ _ _ y0 y1
      · rw [if_neg h, load_apart _ a1 a2 a4 n ok1 ok2 h]; exact load_saved _ _ _ x0 x1
    rw [ok1, if_pos rfl, e] at h; exact h
  have L4 : Hid (∀ W g c, n ≤ c → Bytes W (some ⟨g, 0, none⟩) n (savedF (savedF f a1 a3 true) a2 a4 true) → Calls Try.prog 9 #[memV y (some ⟨g, 0, none⟩) n c, .int .u32 a2, .bool true] W fun e w' => e = .returned (.tuple #[.int .u32 a4, .bool true]) ∧ Below W.heap.size W w') := by
    intro W g c hc2 hW
    have h := load_any y a2 true _ n c _ W hn2 hc2 v0 v1 hW
    rw [ok2, if_pos rfl, load_saved _ _ _ y0 y1] at h; exact h
  generalize savedF (savedF f a1 a3 true) a2 a4 true = F2 at L2 L3 L4 HF2
  generalize savedF f a1 a3 true = F at L1 L2 HF1
  clear hB hm hc hn u0 u1 v0 v1 x0 x1 y0 y1 w1 w2 w3 w4 hs hs2 ok1 ok2
  by_cases hab : a1 = a2
  · rw [if_pos hab] at L3
    have hq : (a1 == a2) = true := by simp [hab]
    clear hab
    go_enter Try.func7, Try.ntmps7
    go_wp2_with (first
      | (go_at_call 8; refine (awake_any _).mono ?_; rintro e w1 ⟨rfl, hb1⟩; have Q1 := HM.out.later hb1; obtain ⟨q0, q1⟩ := id Q1)
      | (go_at_call 11; revert hb2; intro hb2; refine (L2.out _ _ _ hc2 (bytes_of_rowB (hr2.later A2) HF1.out)).mono ?_; rintro e w3 ⟨g3, c3, rfl, hg3, hc3, hr3, hb3⟩; have A3 : Below w3.heap.size w3 (w3.alloc (.cells #[.int .i64 y, .slice (some ⟨g3, 0, none⟩) n c3] 24)) := (Below.refl _ _).alloc (Nat.le_refl _) _; have N3 := MemAt.new w3 y (some ⟨g3, 0, none⟩) n c3 24; obtain ⟨n30, n31⟩ := id N3)
      | (go_at_call 11; refine (L1.out _ (HB.out.later hb1)).mono ?_; rintro e w2 ⟨g, c2, rfl, hg, hc2, hr2, hb2⟩; have A2 : Below w2.heap.size w2 (w2.alloc (.cells #[.int .i64 y, .slice (some ⟨g, 0, none⟩) n c2] 24)) := (Below.refl _ _).alloc (Nat.le_refl _) _; have N2 := MemAt.new w2 y (some ⟨g, 0, none⟩) n c2 24; obtain ⟨n20, n21⟩ := id N2)
      | (go_at_call 9; revert hb4; intro hb4; refine (L4.out _ _ _ hc3 (bytes_of_rowB ((hr3.later A3).later hb4) HF2.out)).mono ?_; rintro e w5 ⟨rfl, hb5⟩)
      | (go_at_call 9; refine (L3.out _ _ _ hc3 (bytes_of_rowB (hr3.later A3) HF2.out)).mono ?_; rintro e w4 ⟨rfl, hb4⟩; have N4 := N3.later hb4; obtain ⟨n40, n41⟩ := id N4))
    go_ret
    exact ⟨ret_bool (by simp), bnext (bnext (bnext (bnext (bnext (bnext (HA.out.trans (hb1.mono HS.out)) hb2) A2) hb3) A3) hb4) hb5⟩
  · rw [if_neg hab] at L3
    have hq : (a1 == a2) = false := by simp [hab]
    clear hab
    go_enter Try.func7, Try.ntmps7
    go_wp2_with (first
      | (go_at_call 8; refine (awake_any _).mono ?_; rintro e w1 ⟨rfl, hb1⟩; have Q1 := HM.out.later hb1; obtain ⟨q0, q1⟩ := id Q1)
      | (go_at_call 11; revert hb2; intro hb2; refine (L2.out _ _ _ hc2 (bytes_of_rowB (hr2.later A2) HF1.out)).mono ?_; rintro e w3 ⟨g3, c3, rfl, hg3, hc3, hr3, hb3⟩; have A3 : Below w3.heap.size w3 (w3.alloc (.cells #[.int .i64 y, .slice (some ⟨g3, 0, none⟩) n c3] 24)) := (Below.refl _ _).alloc (Nat.le_refl _) _; have N3 := MemAt.new w3 y (some ⟨g3, 0, none⟩) n c3 24; obtain ⟨n30, n31⟩ := id N3)
      | (go_at_call 11; refine (L1.out _ (HB.out.later hb1)).mono ?_; rintro e w2 ⟨g, c2, rfl, hg, hc2, hr2, hb2⟩; have A2 : Below w2.heap.size w2 (w2.alloc (.cells #[.int .i64 y, .slice (some ⟨g, 0, none⟩) n c2] 24)) := (Below.refl _ _).alloc (Nat.le_refl _) _; have N2 := MemAt.new w2 y (some ⟨g, 0, none⟩) n c2 24; obtain ⟨n20, n21⟩ := id N2)
      | (go_at_call 9; revert hb4; intro hb4; refine (L4.out _ _ _ hc3 (bytes_of_rowB ((hr3.later A3).later hb4) HF2.out)).mono ?_; rintro e w5 ⟨rfl, hb5⟩)
      | (go_at_call 9; refine (L3.out _ _ _ hc3 (bytes_of_rowB (hr3.later A3) HF2.out)).mono ?_; rintro e w4 ⟨rfl, hb4⟩; have N4 := N3.later hb4; obtain ⟨n40, n41⟩ := id N4))
    go_ret
    exact ⟨ret_bool (by simp), bnext (bnext (bnext (bnext (bnext (bnext (HA.out.trans (hb1.mono HS.out)) hb2) A2) hb3) A3) hb4) hb5⟩

/-! ### The row's step -/
set_option maxRecDepth 100000 in
theorem lifted (os : Os) (started : os.Started) (H : Type) (enc : TypeId × Value → H) :
    ReturnsInHanded {} Try.checked os 7 .any (Rows.storeApartSpec.pre6 enc Try.prog Try.f7 Rows.storeApartRow.domain false) (Rows.storeApartSpec.post enc Try.prog Try.f7 false true false false) := by
  refine returnsInHanded_of_change (C := Try.checked) own started (by kernel_rfl) Try.func7
    (ChangeSpec.witness6 (enc := enc) (C := Try.checked) false ⟨#[], #[.agg #[.int .i64 0, .slice none 0 0], .int .u32 0, .int .u32 0, .int .u32 0, .int .u32 0], []⟩ 8 (by kernel_rfl) (by kernel_rfl) (by kernel_rfl) (by kernel_rfl)) ?_
  intro W base args ds gs before hval0 hW hcnd _
  have hval : ∀ (j : Nat) t v, Try.f7.params[j]? = some t → args[j]? = some v → Value.okWide Try.prog W .any base t v := hval0
  have hW' := hW
  obtain ⟨p, q, hA0, hV, rfl, hfz, hnd⟩ := hW
  have hA : DataW.TrodAll enc Try.prog W 0 (fun _ => true) true Try.f7.params.toList args.toList ds p := hA0
  rw [Try.params7] at hA hval
  obtain ⟨v0, vs0, d0, ds0, p0, q0, hargs, rfl, rfl, h0, r0⟩ := trodAll_cons hA
  obtain ⟨v1, vs1, d1, ds1, p1, q1, rfl, rfl, rfl, h1, r1⟩ := trodAll_cons r0
  obtain ⟨v2, vs2, d2, ds2, p2, q2, rfl, rfl, rfl, h2, r2⟩ := trodAll_cons r1
  obtain ⟨v3, vs3, d3, ds3, p3, q3, rfl, rfl, rfl, h3, r3⟩ := trodAll_cons r2
  obtain ⟨v4, vs4, d4, ds4, p4, q4, rfl, rfl, rfl, h4, r4⟩ := trodAll_cons r3
  obtain ⟨rfl, rfl, rfl⟩ := trodAll_nil r4
  obtain rfl : args = #[v0, v1, v2, v3, v4] := by cases args; simp_all
  obtain ⟨rfl, rfl⟩ := trodVars_none hV
  have k0 := h0
  have lt0 : ∀ x ∈ p0, x.block < W.heap.size := by obtain ⟨m, hm⟩ := k0; exact DataW.trod_lt m _ _ _ hm
  obtain ⟨y0, a0, n0, c0, f0, rfl, w0⟩ := open_mem (hval 0 24 v0 rfl rfl) h0
  obtain ⟨a1, rfl, rfl, rfl, w1⟩ := open_int Try.underlying25 (hval 1 25 v1 rfl rfl) h1
  obtain ⟨a2, rfl, rfl, rfl, w2⟩ := open_int Try.underlying25 (hval 2 25 v2 rfl rfl) h2
  obtain ⟨a3, rfl, rfl, rfl, w3⟩ := open_int Try.underlying25 (hval 3 25 v3 rfl rfl) h3
  obtain ⟨a4, rfl, rfl, rfl, w4⟩ := open_int Try.underlying25 (hval 4 25 v4 rfl rfl) h4
  clear hA0 hval0
  refine (walk W y0 a0 n0 c0 f0 w0 a1 w1 a2 w2 a3 w3 a4 w4).mono fun e W' ⟨he, bel⟩ => ?_
  subst he
  exact ⟨_, rfl, _, _, _, [], _, [], hW', trodAll_mk1 (shut_bool Try.underlying4 _), (trodAll_cons_mk (Below.trod laidOut (by kernel_rfl) (of_decide_eq_true (by kernel_rfl)) k0 bel lt0) (trodAll_cons_mk (shut_int Try.underlying25 w1) (trodAll_cons_mk (shut_int Try.underlying25 w2) (trodAll_cons_mk (shut_int Try.underlying25 w3) (trodAll_cons_mk (shut_int Try.underlying25 w4) trodAll_mk0))))), rfl, bel.frame _, fun h => by cases h⟩

theorem over : Rows.StoreApartSaid :=
  OpenClaim.holds_of_wide 7 Try.f7 rfl rfl rfl rfl rfl rfl rfl ⟨rfl, rfl, rfl, rfl, rfl⟩ rfl rfl rfl rfl rfl (by kernel_rfl) Try.func7 (by kernel_rfl)
    (of_decide_eq_true (by kernel_rfl)) (by unfold Func.isWrapper; first | (rw [if_pos (by decide +kernel)]; kernel_rfl) | (rw [if_neg (by decide +kernel)]; exact ⟨rfl, rfl⟩))
    (fun os started H enc _ => lifted os started H enc)
end Go.Proofs.Ytjadepeohljljaa.storeApart

namespace Go.Proofs.Ytjadepeohljljaa
theorem StoreApart_holds : Rows.StoreApartSaid := storeApart.over
#print axioms StoreApart_holds
end Go.Proofs.Ytjadepeohljljaa
