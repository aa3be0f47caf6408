/- For every memory, address, word and width StoreKeeps returns true: of a memory of 2,000 bytes at most what is handed in stays, and what is saved is new memory: writing to it changes nothing of what was handed in. No condition. -/
import Derived.Test.YtjadepeohljljaaFrame
import Derived.Test.YtjadepeohljljaaStoreMath
import Derived.WalkKit
import Derived.ProofKit
namespace Go.Proofs.Ytjadepeohljljaa.storeKeeps
open Go.ChangeShapes Go.WideShapes Go.ChangeAt Go.RowKit Go.Sort
set_option linter.unusedVariables false

set_option maxRecDepth 100000 in
set_option maxHeartbeats 2000000 in
theorem walk (w : World) (y : Int) (a : Option Addr) (n cap : Nat) (f : Nat → Int) (h0 : (Lit.int .i64 y).wf = true ∧ n ≤ cap ∧ cap ≤ maxLen ∧ (a = none → cap = 0) ∧ Bytes w a n f) (a1 : Int) (w1 : (Lit.int .u32 a1).wf = true) (a2 : Int) (w2 : (Lit.int .u32 a2).wf = true) (wide : Bool) :
    Calls Try.prog 6 #[memV y a n cap, .int .u32 a1, .int .u32 a2, .bool wide] w fun e w' => e = .returned (.bool true) ∧ Below w.heap.size w w' := by
  obtain ⟨hy, hc, hm, hnil, hB⟩ := h0
  obtain ⟨u0, u1⟩ := wf_u32_bd w1
  obtain ⟨v0, v1⟩ := wf_u32_bd w2
  have hm' : n ≤ 9223372036854775807 := by unfold maxLen at hm; omega
  have HA : Hid (Below w.heap.size w (w.alloc (.cells #[.int .i64 y, .slice a n cap] 24))) := (Below.refl _ w).alloc (Nat.le_refl _) _
  have HM : Hid (MemAt (w.alloc (.cells #[.int .i64 y, .slice a n cap] 24)) w.heap.size y a n cap) := MemAt.new w y a n cap 24
  have HB : Hid (Bytes (w.alloc (.cells #[.int .i64 y, .slice a n cap] 24)) a n f) := hB.later HA.out
  have HS : Hid (w.heap.size ≤ (w.alloc (.cells #[.int .i64 y, .slice a n cap] 24)).heap.size) := HA.out.size
  by_cases hn : 2000 < n
  · have hn' : (2000 : Int) < n := by omega
    clear hB hm hc hn u0 u1 v0 v1 w1 w2
    go_enter Try.func6, Try.ntmps6
    go_wp2_with (first
      | (go_at_call 8; revert hb1; intro hb1; refine (awake_any _).mono ?_; rintro e w2 ⟨rfl, hb2⟩)
      | (go_at_call 8; refine (awake_any _).mono ?_; rintro e w1 ⟨rfl, hb1⟩; have Q1 := HM.out.later hb1; obtain ⟨x0, x1⟩ := id Q1))
    go_ret
    exact ⟨rfl, bnext (HA.out.trans (hb1.mono HS.out)) hb2⟩
  have hn' : (n : Int) ≤ 2000 := by omega
  have hn2 : n ≤ 2000 := by omega
  have LS : Hid (∀ W b c c1 c2, Bytes W b n f → Bytes W c n f → Calls Try.prog 13 #[memV y b n c1, memV y c n c2] W fun e w' => e = .returned (.bool true) ∧ Below W.heap.size W w') := fun W b c c1 c2 g1 g2 => rsame_any W y b c n c1 c2 f hn2 g1 g2
  have LY : Hid (∀ W, saveB n a1 wide y = true → Bytes W a n f → Calls Try.prog 11 #[memV y a n cap, .int .u32 a1, .int .u32 a2, .bool wide] W fun e w' => ∃ g cap', e = .returned (.tuple #[memV y (some ⟨g, 0, none⟩) n cap', .bool true]) ∧ W.heap.size ≤ g ∧ n ≤ cap' ∧ RowB w' g n (savedF f a1 a2 wide) ∧ Below W.heap.size W w') := fun W hs hW => save_yes y a1 a2 wide a n cap f W hn2 hc hy u0 u1 v0 v1 hW hs
  have LN : Hid (∀ W, saveB n a1 wide y = false → Bytes W a n f → SaveNo Try.prog 11 y a1 a2 wide a n cap W) := fun W hs hW => save_no y a1 a2 wide a n cap f W hn2 hc hy u0 u1 hW hs
  have HFf : Hid (∀ k, 0 ≤ f k ∧ f k < 256) := hB.1
  have HZ : Hid (n = 0 → saveB n a1 wide y = false) := by
    intro h0; unfold saveB okB; rw [Bool.and_eq_false_iff]; left; exact decide_eq_false (by omega)
  have H0 : Hid (n = 0 ∨ ∃ b off, a = some ⟨b, off, none⟩) := hB.2.imp id fun ⟨b, off, e, _⟩ => ⟨b, off, e⟩
  generalize saveB n a1 wide y = sb at LY LN HZ
  generalize savedF f a1 a2 wide = F at LY
  clear hB hm hc hn u0 u1 v0 v1 w1 w2
  obtain ⟨i0, hi0, hz0, hz1, hz2⟩ := info_parts info5
  by_cases hz : n = 0
  · subst hz
    obtain rfl := HZ.out rfl
    clear HFf HZ H0 LY
    go_enter Try.func6, Try.ntmps6
    go_upto_region 3 with (first
      | (go_at_call 8; refine (awake_any _).mono ?_; rintro e w1 ⟨rfl, hb1⟩; have Q1 := HM.out.later hb1; obtain ⟨x0, x1⟩ := id Q1))
    have HQ1 : Hid (MemAt w1 w.heap.size y a 0 cap) := Q1
    have HBy : Hid (Bytes w1 a 0 f) := HB.out.later hb1
    have HW1 : Hid (Below w.heap.size w w1) := HA.out.trans (hb1.mono HS.out)
    have hs1 : w.heap.size < w1.heap.size := World.block_lt_of_cell? w1 ⟨w.heap.size, 0, none⟩ Q1.1
    clear hb1 HB HM HA HS Q1
    go_cut [9] from 22 to 28 (fun p wx => ∃ k g cap', p = .pointer (some ⟨k, 0, none⟩) ∧ MemFree wx k y (some ⟨g, 0, none⟩) 0 cap' ∧ w1.heap.size ≤ k ∧ Below w1.heap.size w1 wx)
    case first =>
      have MF1 : MemFree ((w1.alloc (.cells #[] 5)).alloc (.cells #[.int .i64 y, .slice (some ⟨w1.heap.size, 0, none⟩) 0 0] 24)).drew (w1.heap.size + 1) y (some ⟨w1.heap.size, 0, none⟩) 0 0 := by
        have h := MemFree.new (w1.alloc (.cells #[] 5)) y (some ⟨w1.heap.size, 0, none⟩) 0 0 24
        rw [show (w1.alloc (.cells #[] 5)).heap.size = w1.heap.size + 1 from by simp] at h
        exact h
      have MF2 : MemFree ((w1.alloc (.cells #[.int .i64 y, .slice (some ⟨w1.heap.size + 1, 0, none⟩) 0 0] 24)).alloc (.cells #[] 5)).drew w1.heap.size y (some ⟨w1.heap.size + 1, 0, none⟩) 0 0 := by
        have h := (MemFree.new w1 y (some ⟨w1.heap.size + 1, 0, none⟩) 0 0 24).later ((Below.refl _ _).alloc (Nat.le_refl _) (.cells #[] 5))
        exact h
      cases a with
      | none =>
        obtain rfl := hnil rfl
        have HK : Hid (∀ W : World, Below w1.heap.size w1 W → W.cell? ⟨w.heap.size, 0, none⟩ = some (.int .i64 y) ∧ W.cell? ⟨w.heap.size, 1, none⟩ = some (.slice none 0 0) ∧ Below w1.heap.size w1 W) := fun W hW => ⟨cell_later' x0 hW, cell_later' x1 hW, hW⟩
        have hb0 := Below.refl w1.heap.size w1
        go_region_held3 (fun w' => w'.cell? ⟨w.heap.size, 0, none⟩ = some (.int .i64 y) ∧ w'.cell? ⟨w.heap.size, 1, none⟩ = some (.slice none 0 0) ∧ Below w1.heap.size w1 w')
          (first
          | (refine HK.out _ ?_; repeat' (first | exact (‹_ ∧ _ ∧ Below w1.heap.size w1 _›).2.2 | exact hb0 | refine keep_drew ?_ | refine keep_alloc ?_ _ | refine keep_set ?_ (by simp <;> omega) _ | exact (‹_ ∧ _ ∧ Below w1.heap.size w1 _›).2.2.size | (simp <;> omega)))
          | fail)
          (first
          | (refine step_append_none (by rfl) _ _ 22 (by rfl) w1.heap.size 5 i0 1 Try.underlying22 hi0 (.slice (some ⟨w1.heap.size, 0, none⟩) 0 0) 0 [] (by rfl) (World.ownsRow_made w1 #[] 0 (Nat.le_refl _) (by unfold maxLen; omega) rfl) (by rfl) ?_)
          | (refine step_append_none (by rfl) _ _ 22 (by rfl) w1.heap.size 5 i0 1 Try.underlying22 hi0 (.slice (some ⟨w1.heap.size, 0, none⟩) 0 0) 0 [] (by rfl) ((World.ownsRow_made w1 #[] 0 (Nat.le_refl _) (by unfold maxLen; omega) rfl).alloc _) (by rfl) ?_)
          | (refine step_append_none (by rfl) _ _ 22 (by rfl) w1.heap.size 5 i0 1 Try.underlying22 hi0 (.slice (some ⟨w1.heap.size + 1, 0, none⟩) 0 0) 0 [] (by rfl) (owns_behind w1 _) (by rfl) ?_)
          | fail)
        all_goals go_wp2_with fail
        all_goals go_meet
        · exact ⟨_, _, _, rfl, MF1, by omega, keep_drew (keep_alloc (keep_alloc hb0 _) _)⟩
        · exact ⟨_, _, _, rfl, MF1, by omega, keep_drew (keep_alloc (keep_alloc hb0 _) _)⟩
        · exact ⟨_, _, _, rfl, MF2, Nat.le_refl _, keep_drew (keep_alloc (keep_alloc hb0 _) _)⟩
      | some x =>
        have HK : Hid (∀ W : World, Below w1.heap.size w1 W → W.cell? ⟨w.heap.size, 0, none⟩ = some (.int .i64 y) ∧ W.cell? ⟨w.heap.size, 1, none⟩ = some (.slice (some x) 0 cap) ∧ Below w1.heap.size w1 W) := fun W hW => ⟨cell_later' x0 hW, cell_later' x1 hW, hW⟩
        have hb0 := Below.refl w1.heap.size w1
        go_region_held3 (fun w' => w'.cell? ⟨w.heap.size, 0, none⟩ = some (.int .i64 y) ∧ w'.cell? ⟨w.heap.size, 1, none⟩ = some (.slice (some x) 0 cap) ∧ Below w1.heap.size w1 w')
          (first
          | (refine HK.out _ ?_; repeat' (first | exact (‹_ ∧ _ ∧ Below w1.heap.size w1 _›).2.2 | exact hb0 | refine keep_drew ?_ | refine keep_alloc ?_ _ | refine keep_set ?_ (by simp <;> omega) _ | exact (‹_ ∧ _ ∧ Below w1.heap.size w1 _›).2.2.size | (simp <;> omega)))
          | fail)
          (first
          | (refine step_append_nothing (by rfl) _ _ 22 (by rfl) 5 i0 Try.underlying22 hi0 hz1 (w1.heap.size) 0 (by rfl) x cap (by rfl) ?_)
          | (refine step_append_nothing (by rfl) _ _ 22 (by rfl) 5 i0 Try.underlying22 hi0 hz1 (w1.heap.size + 1) 0 (by rfl) x cap (by rfl) ?_)
          | fail)
        all_goals go_wp2_with fail
        all_goals go_meet
        · exact ⟨_, _, _, rfl, MF1, by omega, keep_drew (keep_alloc (keep_alloc hb0 _) _)⟩
        · exact ⟨_, _, _, rfl, MF1, by omega, keep_drew (keep_alloc (keep_alloc hb0 _) _)⟩
        · exact ⟨_, _, _, rfl, MF2, Nat.le_refl _, keep_drew (keep_alloc (keep_alloc hb0 _) _)⟩
    case rest =>
      obtain ⟨k, g, cap', rfl, hM, hk, hbc⟩ := hcut
      have HQc : Hid (MemAt wc w.heap.size y a 0 cap) := HQ1.out.later hbc
      have HKc : Hid (MemAt wc k y (some ⟨g, 0, none⟩) 0 cap') := hM.1
      have HBc2 : Hid (Bytes wc a 0 f) := HBy.out.later hbc
      have HRc : Hid (Bytes wc (some ⟨g, 0, none⟩) 0 f) := ⟨HBy.out.1, .inl rfl⟩
      have HWc : Hid (Below w.heap.size w wc) := HW1.out.trans (hbc.mono (by omega))
      clear hM hbc x0 x1 HQ1 HBy hi0 hz0 hz1 hz2
      obtain ⟨x0, x1⟩ := id HQc.out
      go_wp2_with (first
        | (go_at_call 11; refine (LN.out _ (by trivial) HBc2.out).mono ?_; rintro e w2 ⟨rfl, hb2⟩; have A2 : Below w2.heap.size w2 (w2.alloc (.cells #[.int .i64 y, .slice a 0 cap] 24)) := (Below.refl _ _).alloc (Nat.le_refl _) _; have Q2 := (HQc.out.later hb2).later A2; obtain ⟨y0, y1⟩ := id Q2; have K2 := (HKc.out.later hb2).later A2; obtain ⟨k0, k1⟩ := id K2)
        | (go_at_call 13; refine (LS.out _ _ _ _ _ ((HBc2.out.later hb2).later A2) ((HRc.out.later hb2).later A2)).mono ?_; rintro e w3 ⟨rfl, hb3⟩))
      go_ret
      exact ⟨rfl, bnext (bnext (bnext HWc.out hb2) A2) hb3⟩
  rcases H0.out with h | ⟨b, off, rfl⟩
  · exact absurd h hz
  have HBc : Hid (∀ W, Bytes W (some ⟨b, off, none⟩) n f → ∀ j, j < n → W.cell? ⟨b, off + j, none⟩ = some (.int .u8 (f j))) := by
    rintro W ⟨_, h | ⟨b', off', e, h⟩⟩ j hj
    · omega
    · simp only [Option.some.injEq, Addr.mk.injEq, and_true] at e
      obtain ⟨rfl, rfl⟩ := e
      exact h j hj
  go_enter Try.func6, Try.ntmps6
  go_upto_region 3 with (first
    | (go_at_call 8; refine (awake_any _).mono ?_; rintro e w1 ⟨rfl, hb1⟩; have Q1 := HM.out.later hb1; obtain ⟨x0, x1⟩ := id Q1))
  have HQ1 : Hid (MemAt w1 w.heap.size y (some ⟨b, off, none⟩) n cap) := Q1
  have HBy : Hid (Bytes w1 (some ⟨b, off, none⟩) n f) := HB.out.later hb1
  have HB1 : Hid (∀ j, j < n → w1.cell? ⟨b, off + j, none⟩ = some (.int .u8 (f j))) := HBc.out _ HBy.out
  have HW1 : Hid (Below w.heap.size w w1) := HA.out.trans (hb1.mono HS.out)
  have hs1 : w.heap.size < w1.heap.size := World.block_lt_of_cell? w1 ⟨w.heap.size, 0, none⟩ Q1.1
  have hi : 0 < n := by omega
  clear hb1 HB HM HA HS Q1
  go_cut [9] from 22 to 28 (fun p wx => ∃ k g cap', p = .pointer (some ⟨k, 0, none⟩) ∧ MemFree wx k y (some ⟨g, 0, none⟩) n cap' ∧ RowB wx g n f ∧ n ≤ cap' ∧ w1.heap.size ≤ g ∧ w1.heap.size ≤ k ∧ k ≠ g ∧ Below w1.heap.size w1 wx)
  case first =>
    have HA1 : Hid (∀ W : World, (∀ j, j < n → W.cell? ⟨b, off + j, none⟩ = some (.int .u8 (f j))) → ∀ j u, ((List.range n).map fun j => Value.int .u8 (f j))[j]? = some u → W.cell? ((⟨b, off, none⟩ : Addr).add j) = some u) := by
      intro W hW j u hu
      have hj : j < n := by have := (List.getElem?_eq_some_iff.1 hu).1; simpa using this
      rw [show (⟨b, off, none⟩ : Addr).add j = ⟨b, off + j, none⟩ from by cases j <;> simp [Addr.add], hW j hj, ← hu]
      simp [hj]
    have HK : Hid (∀ W : World, Below w1.heap.size w1 W → W.cell? ⟨w.heap.size, 0, none⟩ = some (.int .i64 y) ∧ W.cell? ⟨w.heap.size, 1, none⟩ = some (.slice (some ⟨b, off, none⟩) n cap) ∧ Below w1.heap.size w1 W) := fun W hW => ⟨cell_later' x0 hW, cell_later' x1 hW, hW⟩
    have hb0 := Below.refl w1.heap.size w1
    go_region_held3 (fun w' => w'.cell? ⟨w.heap.size, 0, none⟩ = some (.int .i64 y) ∧ w'.cell? ⟨w.heap.size, 1, none⟩ = some (.slice (some ⟨b, off, none⟩) n cap) ∧ Below w1.heap.size w1 w')
      (first
      | (refine HK.out _ ?_; repeat' (first | exact (‹_ ∧ _ ∧ Below w1.heap.size w1 _›).2.2 | exact hb0 | refine keep_drew ?_ | refine keep_alloc ?_ _ | refine keep_set ?_ (by simp <;> omega) _ | refine Below.grown ?_ hgrow ?_ (fun q hq => by simp [Value.ownBlock] at hq; omega) | exact (‹_ ∧ _ ∧ Below w1.heap.size w1 _›).2.2.size | (simp <;> omega)))
      | fail)
      (first
      | ((refine step_append_lies _ (by rfl) _ _ 22 (by rfl) w1.heap.size 5 i0 _ 1 1 Try.underlying22 hi0 hz0 hz1 hz2 rfl (by decide) (.slice (some ⟨w1.heap.size, 0, none⟩) 0 0) 0 [] (by rfl) (World.ownsRow_made w1 #[] 0 (Nat.le_refl _) (by unfold maxLen; omega) rfl) ⟨b, off, none⟩ n cap ((List.range n).map fun j => .int .u8 (f j)) (by rfl) (by simp) (HA1.out _ (fun j hj => cell_later' (HB1.out j hj) (((Below.refl _ _).alloc (Nat.le_refl _) _).drew))) (by simp [Value.oneCell']) (by omega) (by unfold maxLen; omega) (by omega) (by simp) _ rfl ?_; intro g cap2 w2 hown hgrow hat hlt; have hb2 : Below w1.heap.size w1 w2 := Below.grown ((Below.refl _ _).alloc (Nat.le_refl _) _).drew hgrow (by simp <;> omega) (fun q hq => by simp [Value.ownBlock] at hq; omega)))
      | ((refine step_append_lies _ (by rfl) _ _ 22 (by rfl) w1.heap.size 5 i0 _ 1 1 Try.underlying22 hi0 hz0 hz1 hz2 rfl (by decide) (.slice (some ⟨w1.heap.size, 0, none⟩) 0 0) 0 [] (by rfl) ((World.ownsRow_made w1 #[] 0 (Nat.le_refl _) (by unfold maxLen; omega) rfl).alloc _) ⟨b, off, none⟩ n cap ((List.range n).map fun j => .int .u8 (f j)) (by rfl) (by simp) (HA1.out _ (fun j hj => cell_later' (HB1.out j hj) (by first | exact (((Below.refl _ _).alloc (Nat.le_refl _) _).drew).alloc (by simp) _ | exact ((((Below.refl _ _).alloc (Nat.le_refl _) _).drew).alloc (by simp) _).drew))) (by simp [Value.oneCell']) (by omega) (by unfold maxLen; omega) (by omega) (by simp <;> omega) _ rfl ?_; intro g cap2 w2 hown hgrow hat hlt; have hb2 : Below w1.heap.size w1 w2 := Below.grown (by first | exact (((Below.refl _ _).alloc (Nat.le_refl _) _).drew).alloc (by simp) _ | exact ((((Below.refl _ _).alloc (Nat.le_refl _) _).drew).alloc (by simp) _).drew | exact (((Below.refl _ _).alloc (Nat.le_refl _) _).alloc (by simp) _) | exact (((Below.refl _ _).alloc (Nat.le_refl _) _).alloc (by simp) _).drew) hgrow (by simp <;> omega) (fun q hq => by simp [Value.ownBlock] at hq; omega); have k0 : w2.cell? ⟨w1.heap.size + 1, 0, none⟩ = some (.int .i64 0) := hgrow.cell (by simp [go_sem]) (by simp [Value.ownBlock]); have k1 : w2.cell? ⟨w1.heap.size + 1, 1, none⟩ = some (.slice none 0 0) := hgrow.cell (by simp [go_sem]) (by simp [Value.ownBlock]); have k2 : w2.frozen? ⟨w1.heap.size + 1, 0, none⟩ = false := (World.frozen?_of_block (a := ⟨w1.heap.size + 1, 0, none⟩) (hgrow.block _ (by simp <;> omega) (by simp [Value.ownBlock]))).trans (by simp [go_sem]); have k3 : w2.frozen? ⟨w1.heap.size + 1, 1, none⟩ = false := (World.frozen?_of_block (a := ⟨w1.heap.size + 1, 1, none⟩) (hgrow.block _ (by simp <;> omega) (by simp [Value.ownBlock]))).trans (by simp [go_sem])))
      | ((refine step_append_lies _ (by rfl) _ _ 22 (by rfl) w1.heap.size 5 i0 _ 1 1 Try.underlying22 hi0 hz0 hz1 hz2 rfl (by decide) (.slice (some ⟨w1.heap.size + 1, 0, none⟩) 0 0) 0 [] (by rfl) (owns_behind w1 _) ⟨b, off, none⟩ n cap ((List.range n).map fun j => .int .u8 (f j)) (by rfl) (by simp) (HA1.out _ (fun j hj => cell_later' (HB1.out j hj) (by first | exact (((Below.refl _ _).alloc (Nat.le_refl _) _).alloc (by simp) _).drew | exact (((Below.refl _ _).alloc (Nat.le_refl _) _).alloc (by simp) _) | exact (((Below.refl _ _).alloc (Nat.le_refl _) _).drew.alloc (by simp) _)))) (by simp [Value.oneCell']) (by omega) (by unfold maxLen; omega) (by omega) (by simp <;> omega) _ rfl ?_; intro g cap2 w2 hown hgrow hat hlt; have hb2 : Below w1.heap.size w1 w2 := Below.grown (by first | exact (((Below.refl _ _).alloc (Nat.le_refl _) _).alloc (by simp) _).drew | exact (((Below.refl _ _).alloc (Nat.le_refl _) _).alloc (by simp) _) | exact (((Below.refl _ _).alloc (Nat.le_refl _) _).drew.alloc (by simp) _) | exact (((Below.refl _ _).alloc (Nat.le_refl _) _).drew.alloc (by simp) _).drew) hgrow (by simp <;> omega) (fun q hq => by simp [Value.ownBlock] at hq; omega); have k0 : w2.cell? ⟨w1.heap.size, 0, none⟩ = some (.int .i64 0) := hgrow.cell (by simp [go_sem]) (by simp [Value.ownBlock]); have k1 : w2.cell? ⟨w1.heap.size, 1, none⟩ = some (.slice none 0 0) := hgrow.cell (by simp [go_sem]) (by simp [Value.ownBlock]); have k2 : w2.frozen? ⟨w1.heap.size, 0, none⟩ = false := (World.frozen?_of_block (a := ⟨w1.heap.size, 0, none⟩) (hgrow.block _ (by simp <;> omega) (by simp [Value.ownBlock]))).trans (by simp [go_sem]); have k3 : w2.frozen? ⟨w1.heap.size, 1, none⟩ = false := (World.frozen?_of_block (a := ⟨w1.heap.size, 1, none⟩) (hgrow.block _ (by simp <;> omega) (by simp [Value.ownBlock]))).trans (by simp [go_sem])))
      | fail)
    all_goals go_wp2_with fail
    all_goals go_meet
    all_goals
      obtain ⟨hr, hnc, hg⟩ := rowB_of_owns hown
      simp [Value.ownBlock] at hat
    · exact ⟨w2.heap.size, g, cap2, rfl, MemFree.new w2 _ _ _ _ _, hr.later ((Below.refl _ _).alloc (Nat.le_refl _) _), hnc, hg, hb2.size, by omega, keep_alloc hb2 _⟩
    · exact ⟨w1.heap.size + 1, g, cap2, rfl, mem_set2 ⟨⟨k0, k1⟩, k2, k3⟩ _ _ _ _, (hr.far (by omega) _ _).far (by omega) _ _, hnc, hg, by omega, by omega, below_set2 hb2 (by omega) _ _⟩
    · exact ⟨w1.heap.size, g, cap2, rfl, mem_set2 ⟨⟨k0, k1⟩, k2, k3⟩ _ _ _ _, (hr.far (by omega) _ _).far (by omega) _ _, hnc, hg, by omega, by omega, below_set2 hb2 (by omega) _ _⟩
  case rest =>
    obtain ⟨k, g, cap', rfl, hM, hR, hnc, hg, hk, hkg, hbc⟩ := hcut
    have HQc : Hid (MemAt wc w.heap.size y (some ⟨b, off, none⟩) n cap) := HQ1.out.later hbc
    have HKc : Hid (MemAt wc k y (some ⟨g, 0, none⟩) n cap') := hM.1
    have HRc : Hid (Bytes wc (some ⟨g, 0, none⟩) n f) := bytes_of_rowB hR HFf.out
    have HBc2 : Hid (Bytes wc (some ⟨b, off, none⟩) n f) := HBy.out.later hbc
    have HWc : Hid (Below w.heap.size w wc) := HW1.out.trans (hbc.mono (by omega))
    clear hM hR hbc x0 x1 HQ1 HBy HB1 hi0 hz0 hz1 hz2
    obtain ⟨x0, x1⟩ := id HQc.out
    cases sb
    · go_wp2_with (first
        | (go_at_call 11; refine (LN.out _ (by trivial) HBc2.out).mono ?_; rintro e w2 ⟨rfl, hb2⟩; have A2 : Below w2.heap.size w2 (w2.alloc (.cells #[.int .i64 y, .slice (some ⟨b, off, none⟩) n cap] 24)) := (Below.refl _ _).alloc (Nat.le_refl _) _; have Q2 := (HQc.out.later hb2).later A2; obtain ⟨y0, y1⟩ := id Q2; have K2 := (HKc.out.later hb2).later A2; obtain ⟨k0, k1⟩ := id K2)
        | (go_at_call 13; refine (LS.out _ _ _ _ _ ((HBc2.out.later hb2).later A2) ((HRc.out.later hb2).later A2)).mono ?_; rintro e w3 ⟨rfl, hb3⟩))
      go_ret
      exact ⟨rfl, bnext (bnext (bnext HWc.out hb2) A2) hb3⟩
    · go_wp2_with (first
        | (go_at_call 11; refine (LY.out _ (by trivial) HBc2.out).mono ?_; rintro e w2 ⟨G, C, rfl, hG, hC, hr2, hb2⟩; have A2 : Below w2.heap.size w2 (w2.alloc (.cells #[.int .i64 y, .slice (some ⟨G, 0, none⟩) n C] 24)) := (Below.refl _ _).alloc (Nat.le_refl _) _; have Q2 := (HQc.out.later hb2).later A2; have K2 := (HKc.out.later hb2).later A2; have N2 := MemAt.new w2 y (some ⟨G, 0, none⟩) n C 24)
        | fail)
      have hgl : g < wc.heap.size := by
        obtain ⟨_, h | ⟨b', o', e, h⟩⟩ := HRc.out
        · omega
        · simp only [Option.some.injEq, Addr.mk.injEq] at e
          obtain ⟨rfl, _⟩ := e
          exact World.block_lt_of_cell? wc _ (h 0 hi)
      have hkl : k < wc.heap.size := World.block_lt_of_cell? wc ⟨k, 0, none⟩ HKc.out.1
      have hGl : G < w2.heap.size := hr2.2.2
      have hGN : w2.heap.size ≠ G := by omega
      have HR : Hid (∀ q, q < n → ∃ v : Int, (w2.alloc (.cells #[.int .i64 y, .slice (some ⟨G, 0, none⟩) n C] 24)).cell? ⟨G, q, none⟩ = some (.int .u8 v)) := fun q hq => ⟨_, (hr2.later A2).1 q hq⟩
      have HF : Hid (∀ q, (w2.alloc (.cells #[.int .i64 y, .slice (some ⟨G, 0, none⟩) n C] 24)).frozen? ⟨G, q, none⟩ = false) := (hr2.later A2).2.1
      have HBw : Hid (Below wc.heap.size wc (w2.alloc (.cells #[.int .i64 y, .slice (some ⟨G, 0, none⟩) n C] 24))) := bnext hb2 A2
      have HN : Hid (MemAt (w2.alloc (.cells #[.int .i64 y, .slice (some ⟨G, 0, none⟩) n C] 24)) w2.heap.size y (some ⟨G, 0, none⟩) n C) := N2
      clear Q2 K2 N2 A2 hb2 hr2 x0 x1
      go_loopw [12] (fun t wr => ∃ j : Nat, j ≤ n ∧ t = .int .i64 j ∧ Below wc.heap.size wc wr ∧ MemAt wr w2.heap.size y (some ⟨G, 0, none⟩) n C ∧ (∀ q, q < n → ∃ v : Int, wr.cell? ⟨G, q, none⟩ = some (.int .u8 v)) ∧ (∀ q, wr.frozen? ⟨G, q, none⟩ = false)) (fun t _ => n - (intOf t).toNat)
      case atStart => exact ⟨0, Nat.zero_le _, rfl, HBw.out, HN.out, HR.out, HF.out⟩
      case round =>
        obtain ⟨j, hj, rfl, hbel, hN, hrow, hfz⟩ := hrel
        have HBr : Hid (Below wc.heap.size wc wr) := hbel
        have HNr : Hid (MemAt wr w2.heap.size y (some ⟨G, 0, none⟩) n C) := hN
        have HRr : Hid (∀ q, q < n → ∃ v : Int, wr.cell? ⟨G, q, none⟩ = some (.int .u8 v)) := hrow
        have HFr : Hid (∀ q, wr.frozen? ⟨G, q, none⟩ = false) := hfz
        obtain ⟨m0, m1⟩ := hN
        by_cases hlt : j < n
        · obtain ⟨v, gj⟩ := hrow j hlt
          have gf := hfz j
          clear hbel hrow hfz
          go_upto_region 9 with fail
          go_region_with (fail)
          all_goals go_wp2_with fail
          all_goals
            go_roundw
            case rel =>
              refine ⟨j + 1, by omega, by go_num, (HBr.out.setCell (p := ⟨G, j, none⟩) (by omega) _).drew, ⟨(World.cell?_setCell_other _ _ _ _ (fun e => hGN (congrArg Addr.block e).symm)).trans HNr.out.1, (World.cell?_setCell_other _ _ _ _ (fun e => hGN (congrArg Addr.block e).symm)).trans HNr.out.2⟩, fun q hq => ?_, fun q => ?_⟩
              · by_cases e : q = j
                · subst e; exact ⟨_, World.cell?_setCell_same _ _ _ gj⟩
                · obtain ⟨u, hu⟩ := HRr.out q hq
                  exact ⟨u, (World.cell?_setCell_other _ _ _ _ (fun h => e (congrArg Addr.off h).symm)).trans hu⟩
              · have h := HFr.out q
                simpa using h
            case measure => simp [intOf]; omega
        · obtain rfl : j = n := by omega
          obtain ⟨p0, p1⟩ := HQc.out.later hbel
          obtain ⟨k0, k1⟩ := HKc.out.later hbel
          have HB5 : Hid (Bytes wr (some ⟨b, off, none⟩) j f) := HBc2.out.later hbel
          have HR5 : Hid (Bytes wr (some ⟨g, 0, none⟩) j f) := HRc.out.later hbel
          clear hbel hrow hfz
          go_wp2_with (go_at_call 13; refine (LS.out _ _ _ _ _ HB5.out HR5.out).mono ?_; rintro e w3 ⟨rfl, hb3⟩)
          go_ret
          exact ⟨rfl, bnext (HWc.out.trans (HBr.out.mono HWc.out.size)) hb3⟩

/-! ### The row's step -/
set_option maxRecDepth 100000 in
theorem lifted (os : Os) (started : os.Started) (H : Type) (enc : TypeId × Value → H) :
    ReturnsInHanded {} Try.checked os 6 .any (Rows.storeKeepsSpec.pre6 enc Try.prog Try.f6 Rows.storeKeepsRow.domain false) (Rows.storeKeepsSpec.post enc Try.prog Try.f6 false true false false) := by
  refine returnsInHanded_of_change (C := Try.checked) own started (by kernel_rfl) Try.func6
    (ChangeSpec.witness6 (enc := enc) (C := Try.checked) false ⟨#[], #[.agg #[.int .i64 0, .slice none 0 0], .int .u32 0, .int .u32 0, .bool false], []⟩ 8 (by kernel_rfl) (by kernel_rfl) (by kernel_rfl) (by kernel_rfl)) ?_
  intro W base args ds gs before hval0 hW hcnd _
  have hval : ∀ (j : Nat) t v, Try.f6.params[j]? = some t → args[j]? = some v → Value.okWide Try.prog W .any base t v := hval0
  have hW' := hW
  obtain ⟨p, q, hA0, hV, rfl, hfz, hnd⟩ := hW
  have hA : DataW.TrodAll enc Try.prog W 0 (fun _ => true) true Try.f6.params.toList args.toList ds p := hA0
  rw [Try.params6] at hA hval
  obtain ⟨v0, vs0, d0, ds0, p0, q0, hargs, rfl, rfl, h0, r0⟩ := trodAll_cons hA
  obtain ⟨v1, vs1, d1, ds1, p1, q1, rfl, rfl, rfl, h1, r1⟩ := trodAll_cons r0
  obtain ⟨v2, vs2, d2, ds2, p2, q2, rfl, rfl, rfl, h2, r2⟩ := trodAll_cons r1
  obtain ⟨v3, vs3, d3, ds3, p3, q3, rfl, rfl, rfl, h3, r3⟩ := trodAll_cons r2
  obtain ⟨rfl, rfl, rfl⟩ := trodAll_nil r3
  obtain rfl : args = #[v0, v1, v2, v3] := by cases args; simp_all
  obtain ⟨rfl, rfl⟩ := trodVars_none hV
  have k0 := h0
  have lt0 : ∀ x ∈ p0, x.block < W.heap.size := by obtain ⟨m, hm⟩ := k0; exact DataW.trod_lt m _ _ _ hm
  obtain ⟨y0, a0, n0, c0, f0, rfl, w0⟩ := open_mem (hval 0 24 v0 rfl rfl) h0
  obtain ⟨a1, rfl, rfl, rfl, w1⟩ := open_int Try.underlying25 (hval 1 25 v1 rfl rfl) h1
  obtain ⟨a2, rfl, rfl, rfl, w2⟩ := open_int Try.underlying25 (hval 2 25 v2 rfl rfl) h2
  obtain ⟨a3, rfl, rfl, rfl⟩ := open_bool Try.underlying4 (hval 3 4 v3 rfl rfl) h3
  clear hA0 hval0
  refine (walk W y0 a0 n0 c0 f0 w0 a1 w1 a2 w2 a3).mono fun e W' ⟨he, bel⟩ => ?_
  subst he
  exact ⟨_, rfl, _, _, _, [], _, [], hW', trodAll_mk1 (shut_bool Try.underlying4 _), (trodAll_cons_mk (Below.trod laidOut (by kernel_rfl) (of_decide_eq_true (by kernel_rfl)) k0 bel lt0) (trodAll_cons_mk (shut_int Try.underlying25 w1) (trodAll_cons_mk (shut_int Try.underlying25 w2) (trodAll_cons_mk (shut_bool Try.underlying4 _) trodAll_mk0)))), rfl, bel.frame _, fun h => by cases h⟩

theorem over : Rows.StoreKeepsSaid :=
  OpenClaim.holds_of_wide 6 Try.f6 rfl rfl rfl rfl rfl rfl rfl ⟨rfl, rfl, rfl, rfl, rfl⟩ rfl rfl rfl rfl rfl (by kernel_rfl) Try.func6 (by kernel_rfl)
    (of_decide_eq_true (by kernel_rfl)) (by unfold Func.isWrapper; first | (rw [if_pos (by decide +kernel)]; kernel_rfl) | (rw [if_neg (by decide +kernel)]; exact ⟨rfl, rfl⟩))
    (fun os started H enc _ => lifted os started H enc)
end Go.Proofs.Ytjadepeohljljaa.storeKeeps

namespace Go.Proofs.Ytjadepeohljljaa
theorem StoreKeeps_holds : Rows.StoreKeepsSaid := storeKeeps.over
#print axioms StoreKeeps_holds
end Go.Proofs.Ytjadepeohljljaa
