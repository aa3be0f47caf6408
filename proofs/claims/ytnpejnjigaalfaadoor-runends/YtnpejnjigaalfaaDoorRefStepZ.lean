/- What the document's own Step returns, whatever the state. -/
import Derived.Test.YtnpejnjigaalfaaDoorRefStepA
import Derived.Test.YtnpejnjigaalfaaDoorRefStepD
import Derived.Test.YtnpejnjigaalfaaDoorRefStepH
namespace Go.Proofs.YtnpejnjigaalfaaDoor
open Go.ChangeShapes Go.WideShapes Go.ChangeAt Go.RowKit
set_option linter.unusedVariables false
/-- A right pure instruction's number. -/
theorem pure_bd (op a b c i : Int) (h : rightB op a b c i = true) : (0 ≤ op ∧ op < 26) ∧ (0 ≤ a ∧ a < 16) ∧ (0 ≤ b ∧ b < 16) ∧ (0 ≤ c ∧ c < 16) ∧ (-8388608 ≤ i ∧ i ≤ 8388607) ∧ (1 ≤ op ∧ op ≤ 10 → -32768 ≤ i ∧ i ≤ 65535) ∧ (op = 10 → 0 ≤ i) := by
  have hr := right_regs op a b c i h
  have ho : 0 ≤ op ∧ op < 26 := by
    simp only [rightB, Bool.and_eq_true, decide_eq_true_eq] at h
    exact h.1.1.1.1
  have hi : (-8388608 ≤ i ∧ i ≤ 8388607) ∧ (1 ≤ op ∧ op ≤ 10 → -32768 ≤ i ∧ i ≤ 65535) ∧ (op = 10 → 0 ≤ i) := by
    rcases (by omega : (1 ≤ op ∧ op ≤ 7) ∨ (op = 8 ∨ 11 ≤ op ∧ op ≤ 14) ∨ op = 10 ∨ (15 ≤ op ∧ op ≤ 18) ∨ op = 9 ∨ (op = 0 ∨ op = 22 ∨ op = 23) ∨ (op = 19 ∨ op = 20) ∨ (op = 21 ∨ op = 24 ∨ op = 25)) with e | e | rfl | e | rfl | e | e | e
    · rw [right_three _ _ _ _ _ e, decide_eq_true_eq] at h; omega
    · rw [right_near _ _ _ _ _ e, decide_eq_true_eq] at h; omega
    · rw [right_ori, decide_eq_true_eq] at h; omega
    · rw [right_branch _ _ _ _ _ e, decide_eq_true_eq] at h; omega
    · rw [right_high, decide_eq_true_eq] at h; omega
    · rw [right_one _ _ _ _ _ e, decide_eq_true_eq] at h; omega
    · rw [right_far _ _ _ _ _ e, decide_eq_true_eq] at h; omega
    · rw [right_no _ _ _ _ _ e, decide_eq_true_eq] at h; omega
  exact ⟨ho, ⟨hr.1, hr.2.1⟩, ⟨hr.2.2.1, hr.2.2.2.1⟩, ⟨hr.2.2.2.2.1, hr.2.2.2.2.2⟩, hi⟩
theorem rstep_post {w : World} {C : Array Value} {s : St} (hv : IsSt w (.agg C) s) (hs : Small s) (a : Option Addr) (n c : Nat) (f : Nat → Int) (hn : n ≤ 1000) (hw : RowK .u32 w a n f) :
    Calls Tryd.prog 13 #[.slice a n c, .agg C] w (StPost w C (stepZ n f s)) := by
  cases he : s.en
  · obtain ⟨i, hi⟩ : ∃ i : Nat, s.at_ = i := Int.eq_ofNat_of_zero_le hs.2.1.1
    by_cases h1 : (n : Int) ≤ s.at_
    · have e : stepZ n f s = s.stop 2 := by unfold stepZ; rw [he, if_neg (by decide), if_pos h1]
      rw [e]
      exact rstep_far hv he a n c i hi (by omega)
    · have hi' : i < n := by omega
      have hx : s.at_.toNat = i := by omega
      have x01 := wf_u32_bd (hw.1 i)
      have e : stepZ n f s = if okG (f i) = true then opZ (gO (f i)) (gA (f i)) (gB (f i)) (gC (f i)) (gI (f i)) s else s.stop 2 := by
        unfold stepZ; rw [he, if_neg (by decide), if_neg h1, hx]
      rw [e]
      have G : ∀ W, Below w.heap.size w W → Calls Tryd.prog 21 #[.int .u32 (f i)] W _ := fun W hW => rget_all (f i) W x01.1 x01.2
      cases hk : okG (f i)
      · rw [if_neg (by decide)]
        refine rstep_bad hv he a n c f i (f i) hn hw hi hi' rfl fun W hW => ?_
        have h := G W hW
        unfold rgetV at h
        rw [hk, if_neg (by decide)] at h
        unfold insV at h
        exact h
      · rw [if_pos rfl]
        have bd := pure_bd _ _ _ _ _ (ok_put _ hk).1
        have hG : ∀ W, Below w.heap.size w W → Calls Tryd.prog 21 #[.int .u32 (f i)] W fun e w' => e = .returned (.tuple #[.agg #[.int .i64 (gO (f i)), .int .i64 (gA (f i)), .int .i64 (gB (f i)), .int .i64 (gC (f i)), .int .i64 (gI (f i))], .bool true]) ∧ Below W.heap.size W w' := by
          intro W hW
          have h := G W hW
          unfold rgetV at h
          rw [hk, if_pos rfl] at h
          unfold insV at h
          exact h
        clear G hk e x01
        obtain ⟨x, ex⟩ : ∃ x, f i = x := ⟨_, rfl⟩
        rw [ex] at bd hG ⊢
        generalize gO x = o at bd hG ⊢
        generalize gA x = A at bd hG ⊢
        generalize gB x = B at bd hG ⊢
        generalize gC x = K at bd hG ⊢
        generalize gI x = I at bd hG ⊢
        obtain ⟨ho, ⟨ha0, ha⟩, ⟨hb0, hb⟩, ⟨hc0, hc⟩, hI, hJ, hL⟩ := bd
        obtain ⟨ra, rfl⟩ := Int.eq_ofNat_of_zero_le ha0
        obtain ⟨rb, rfl⟩ := Int.eq_ofNat_of_zero_le hb0
        obtain ⟨rc, rfl⟩ := Int.eq_ofNat_of_zero_le hc0
        have ha' : ra < 16 := by omega
        have hb' : rb < 16 := by omega
        have hc' : rc < 16 := by omega
        rcases (by omega : o = 0 ∨ o = 1 ∨ o = 2 ∨ o = 3 ∨ o = 4 ∨ o = 5 ∨ o = 6 ∨ o = 7 ∨ o = 8 ∨ o = 9 ∨ o = 10 ∨ o = 11 ∨ o = 12 ∨ o = 13 ∨ o = 14 ∨ o = 15 ∨ o = 16 ∨ o = 17 ∨ o = 18 ∨ o = 19 ∨ o = 20 ∨ o = 21 ∨ o = 22 ∨ o = 23 ∨ o = 24 ∨ o = 25) with
          rfl | rfl | rfl | rfl | rfl | rfl | rfl | rfl | rfl | rfl | rfl | rfl | rfl | rfl | rfl | rfl | rfl | rfl | rfl | rfl | rfl | rfl | rfl | rfl | rfl | rfl
        · exact rstep_0 hv hs he a n c f i x hn hw hi hi' ex ra rb rc I ha' hb' hc' hI hG
        · exact rstep_pure hv hs he a n c f i x hn hw hi hi' ex _ (by omega) ra rb rc I ha' hb' hc' hI (hJ (by decide)) hL hG
        · exact rstep_pure hv hs he a n c f i x hn hw hi hi' ex _ (by omega) ra rb rc I ha' hb' hc' hI (hJ (by decide)) hL hG
        · exact rstep_pure hv hs he a n c f i x hn hw hi hi' ex _ (by omega) ra rb rc I ha' hb' hc' hI (hJ (by decide)) hL hG
        · exact rstep_pure hv hs he a n c f i x hn hw hi hi' ex _ (by omega) ra rb rc I ha' hb' hc' hI (hJ (by decide)) hL hG
        · exact rstep_pure hv hs he a n c f i x hn hw hi hi' ex _ (by omega) ra rb rc I ha' hb' hc' hI (hJ (by decide)) hL hG
        · exact rstep_pure hv hs he a n c f i x hn hw hi hi' ex _ (by omega) ra rb rc I ha' hb' hc' hI (hJ (by decide)) hL hG
        · exact rstep_pure hv hs he a n c f i x hn hw hi hi' ex _ (by omega) ra rb rc I ha' hb' hc' hI (hJ (by decide)) hL hG
        · exact rstep_pure hv hs he a n c f i x hn hw hi hi' ex _ (by omega) ra rb rc I ha' hb' hc' hI (hJ (by decide)) hL hG
        · exact rstep_pure hv hs he a n c f i x hn hw hi hi' ex _ (by omega) ra rb rc I ha' hb' hc' hI (hJ (by decide)) hL hG
        · exact rstep_pure hv hs he a n c f i x hn hw hi hi' ex _ (by omega) ra rb rc I ha' hb' hc' hI (hJ (by decide)) hL hG
        · cases hok : okB s.mn (whereZ s rb I) true
          · exact rstep_11_no hv hs he a n c f i x hn hw hi hi' ex ra rb rc I ha' hb' hc' hI hok hG
          · exact rstep_11_yes hv hs he a n c f i x hn hw hi hi' ex ra rb rc I ha' hb' hc' hI hok hG
        · cases hok : saveB s.mn (whereZ s rb I) true s.wt
          · exact rstep_12_no hv hs he a n c f i x hn hw hi hi' ex ra rb rc I ha' hb' hc' hI hok hG
          · exact rstep_12_yes hv hs he a n c f i x hn hw hi hi' ex ra rb rc I ha' hb' hc' hI hok hG
        · cases hok : okB s.mn (whereZ s rb I) false
          · exact rstep_13_no hv hs he a n c f i x hn hw hi hi' ex ra rb rc I ha' hb' hc' hI hok hG
          · exact rstep_13_yes hv hs he a n c f i x hn hw hi hi' ex ra rb rc I ha' hb' hc' hI hok hG
        · cases hok : saveB s.mn (whereZ s rb I) false s.wt
          · exact rstep_14_no hv hs he a n c f i x hn hw hi hi' ex ra rb rc I ha' hb' hc' hI hok hG
          · exact rstep_14_yes hv hs he a n c f i x hn hw hi hi' ex ra rb rc I ha' hb' hc' hI hok hG
        · cases htk : takenB 15 (s.r ra) (s.r rb)
          · exact rstep_br_false hv hs he a n c f i x hn hw hi hi' ex _ (by omega) ra rb rc I ha' hb' hc' hI htk hG
          · exact rstep_br_true hv hs he a n c f i x hn hw hi hi' ex _ (by omega) ra rb rc I ha' hb' hc' hI htk hG
        · cases htk : takenB 16 (s.r ra) (s.r rb)
          · exact rstep_br_false hv hs he a n c f i x hn hw hi hi' ex _ (by omega) ra rb rc I ha' hb' hc' hI htk hG
          · exact rstep_br_true hv hs he a n c f i x hn hw hi hi' ex _ (by omega) ra rb rc I ha' hb' hc' hI htk hG
        · cases htk : takenB 17 (s.r ra) (s.r rb)
          · exact rstep_br_false hv hs he a n c f i x hn hw hi hi' ex _ (by omega) ra rb rc I ha' hb' hc' hI htk hG
          · exact rstep_br_true hv hs he a n c f i x hn hw hi hi' ex _ (by omega) ra rb rc I ha' hb' hc' hI htk hG
        · cases htk : takenB 18 (s.r ra) (s.r rb)
          · exact rstep_br_false hv hs he a n c f i x hn hw hi hi' ex _ (by omega) ra rb rc I ha' hb' hc' hI htk hG
          · exact rstep_br_true hv hs he a n c f i x hn hw hi hi' ex _ (by omega) ra rb rc I ha' hb' hc' hI htk hG
        · exact rstep_19 hv hs he a n c f i x hn hw hi hi' ex ra rb rc I ha' hb' hc' hI hG
        · exact rstep_20 hv hs he a n c f i x hn hw hi hi' ex ra rb rc I ha' hb' hc' hI hG
        · rcases hbn : s.bn with _ | m
          · exact rstep_21_no hv hs he a n c f i x hn hw hi hi' ex ra rb rc I ha' hb' hc' hI hbn hG
          · exact rstep_21_yes hv hs he a n c f i x hn hw hi hi' ex ra rb rc I ha' hb' hc' hI m hbn hG
        · rcases hin0 : s.inn with _ | m
          · exact rstep_22_no hv hs he a n c f i x hn hw hi hi' ex ra rb rc I ha' hb' hc' hI hin0 hG
          · exact rstep_22_yes hv hs he a n c f i x hn hw hi hi' ex ra rb rc I ha' hb' hc' hI m hin0 hG
        · by_cases hon : s.on_ < 4096
          · exact rstep_23_yes hv hs he a n c f i x hn hw hi hi' ex ra rb rc I ha' hb' hc' hI hon hG
          · exact rstep_23_no hv hs he a n c f i x hn hw hi hi' ex ra rb rc I ha' hb' hc' hI hon hG
        · exact rstep_24 hv hs he a n c f i x hn hw hi hi' ex ra rb rc I ha' hb' hc' hI hG
        · exact rstep_25 hv hs he a n c f i x hn hw hi hi' ex ra rb rc I ha' hb' hc' hI hG
  · have e : stepZ n f s = s := step_ended n f s he
    rw [e]
    exact rstep_en hv he a n c
end Go.Proofs.YtnpejnjigaalfaaDoor
