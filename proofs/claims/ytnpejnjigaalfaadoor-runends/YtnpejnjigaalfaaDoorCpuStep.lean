/- What the code's Step returns. -/
import Derived.Test.YtnpejnjigaalfaaDoorCpuGAll
namespace Go.Proofs.YtnpejnjigaalfaaDoor
open Go.ChangeShapes Go.WideShapes Go.ChangeAt Go.RowKit
set_option linter.unusedVariables false
theorem step_post {w : World} {C : Array Value} {s : St} (hv : IsSt w (.agg C) s) (hs : Small s) (a : Option Addr) (n c : Nat) (f : Nat → Int) (hn : n ≤ 1000) (hw : RowK .u32 w a n f) (hT : Tab w) :
    Calls Tryd.prog 46 #[.slice a n c, .agg C] w (StPost w C (stepZ n f s)) := by
  cases he : s.en
  · obtain ⟨i, hi⟩ : ∃ i : Nat, s.at_ = i := Int.eq_ofNat_of_zero_le hs.2.1.1
    by_cases h1 : (n : Int) ≤ s.at_
    · have e : stepZ n f s = s.stop 2 := by unfold stepZ; rw [he, if_neg (by decide), if_pos h1]
      rw [e]
      refine step_bad hv he a n c fun W hW => ?_
      have h := fetch_out W a n c i hn (by omega)
      unfold insV at h
      rw [hi]; exact h
    · have hi' : i < n := by omega
      have hx : s.at_.toNat = i := by omega
      have x01 := wf_u32_bd (hw.1 i)
      have e : stepZ n f s = if okG (f i) = true then opZ (gO (f i)) (gA (f i)) (gB (f i)) (gC (f i)) (gI (f i)) s else s.stop 2 := by
        unfold stepZ; rw [he, if_neg (by decide), if_neg h1, hx]
      rw [e]
      have G : ∀ W, Below w.heap.size w W → Calls Tryd.prog 63 #[.int .u32 (f i)] W _ := fun W hW => get_all (f i) W x01.1 x01.2 (hT.later hW)
      cases hk : okG (f i)
      · rw [if_neg (by decide)]
        refine step_bad hv he a n c fun W hW => ?_
        rw [hi]
        refine (fetch_bad W a n c f i (f i) 0 0 0 0 0 hn (hw.later hW) hi' rfl fun W' hW' => ?_).mono fun e w' h => by unfold insV at h; exact h
        have h := G W' (bnext hW hW')
        rw [hk, if_neg (by decide)] at h
        unfold insV at h
        exact h
      · rw [if_pos rfl]
        have bd := ins_bd _ _ _ _ _ (ok_put _ hk).1
        have hF : ∀ W, Below w.heap.size w W → Calls Tryd.prog 50 #[.slice a n c, .int .i64 s.at_] W fun e w' => e = .returned (.tuple #[.agg #[.int .i64 (gO (f i)), .int .i64 (gA (f i)), .int .i64 (gB (f i)), .int .i64 (gC (f i)), .int .i64 (gI (f i))], .bool true]) ∧ Below W.heap.size W w' := by
          intro W hW
          rw [hi]
          refine (fetch_ok W a n c f i (f i) _ _ _ _ _ hn (hw.later hW) hi' rfl fun W' hW' => ?_).mono fun e w' h => by unfold insV at h; exact h
          have h := G W' (bnext hW hW')
          rw [hk, if_pos rfl] at h
          unfold insV at h
          exact h
        clear G hk e hx x01 hw hT
        generalize gO (f i) = o at bd hF ⊢
        generalize gA (f i) = A at bd hF ⊢
        generalize gB (f i) = B at bd hF ⊢
        generalize gC (f i) = K at bd hF ⊢
        generalize gI (f i) = I at bd hF ⊢
        obtain ⟨ho, ⟨ha0, ha⟩, ⟨hb0, hb⟩, ⟨hc0, hc⟩, hI, hJ, hL⟩ := bd
        obtain ⟨ra, rfl⟩ := Int.eq_ofNat_of_zero_le ha0
        obtain ⟨rb, rfl⟩ := Int.eq_ofNat_of_zero_le hb0
        obtain ⟨rc, rfl⟩ := Int.eq_ofNat_of_zero_le hc0
        have ha' : ra < 16 := by omega
        have hb' : rb < 16 := by omega
        have hc' : rc < 16 := by omega
        have hI' : -1073741824 ≤ I ∧ I ≤ 1073741824 := by omega
        rcases (by omega : o = 0 ∨ o = 1 ∨ o = 2 ∨ o = 3 ∨ o = 4 ∨ o = 5 ∨ o = 6 ∨ o = 7 ∨ o = 8 ∨ o = 9 ∨ o = 10 ∨ o = 11 ∨ o = 12 ∨ o = 13 ∨ o = 14 ∨ o = 15 ∨ o = 16 ∨ o = 17 ∨ o = 18 ∨ o = 19 ∨ o = 20 ∨ o = 21 ∨ o = 22 ∨ o = 23 ∨ o = 24 ∨ o = 25) with
          rfl | rfl | rfl | rfl | rfl | rfl | rfl | rfl | rfl | rfl | rfl | rfl | rfl | rfl | rfl | rfl | rfl | rfl | rfl | rfl | rfl | rfl | rfl | rfl | rfl | rfl
        · exact step_0 hv hs he a n c ra rb rc I ha' hb' hc' hI' hF
        · exact step_pure hv hs he a n c _ (by omega) ra rb rc I ha' hb' hc' hJ hL hF
        · exact step_pure hv hs he a n c _ (by omega) ra rb rc I ha' hb' hc' hJ hL hF
        · exact step_pure hv hs he a n c _ (by omega) ra rb rc I ha' hb' hc' hJ hL hF
        · exact step_pure hv hs he a n c _ (by omega) ra rb rc I ha' hb' hc' hJ hL hF
        · exact step_pure hv hs he a n c _ (by omega) ra rb rc I ha' hb' hc' hJ hL hF
        · exact step_pure hv hs he a n c _ (by omega) ra rb rc I ha' hb' hc' hJ hL hF
        · exact step_pure hv hs he a n c _ (by omega) ra rb rc I ha' hb' hc' hJ hL hF
        · exact step_pure hv hs he a n c _ (by omega) ra rb rc I ha' hb' hc' hJ hL hF
        · exact step_pure hv hs he a n c _ (by omega) ra rb rc I ha' hb' hc' hJ hL hF
        · exact step_pure hv hs he a n c _ (by omega) ra rb rc I ha' hb' hc' hJ hL hF
        · exact step_11 hv hs he a n c ra rb rc I ha' hb' hc' hI' hF
        · exact step_12 hv hs he a n c ra rb rc I ha' hb' hc' hI' hF
        · exact step_13 hv hs he a n c ra rb rc I ha' hb' hc' hI' hF
        · exact step_14 hv hs he a n c ra rb rc I ha' hb' hc' hI' hF
        · exact step_15 hv hs he a n c ra rb rc I ha' hb' hc' hI' hF
        · exact step_16 hv hs he a n c ra rb rc I ha' hb' hc' hI' hF
        · exact step_17 hv hs he a n c ra rb rc I ha' hb' hc' hI' hF
        · exact step_18 hv hs he a n c ra rb rc I ha' hb' hc' hI' hF
        · exact step_19 hv hs he a n c ra rb rc I ha' hb' hc' hI' hF
        · exact step_20 hv hs he a n c ra rb rc I ha' hb' hc' hI' hF
        · exact step_21 hv hs he a n c ra rb rc I ha' hb' hc' hI' hF
        · exact step_22 hv hs he a n c ra rb rc I ha' hb' hc' hI' hF
        · exact step_23 hv hs he a n c ra rb rc I ha' hb' hc' hI' hF
        · exact step_pure hv hs he a n c _ (by omega) ra rb rc I ha' hb' hc' hJ hL hF
        · exact step_25 hv hs he a n c ra rb rc I ha' hb' hc' hI' hF
  · have e : stepZ n f s = s := step_ended n f s he
    rw [e]
    exact step_en hv he a n c
theorem step_full {w : World} {C : Array Value} {s : St} (hv : IsSt w (.agg C) s) (hs : Small s) (a : Option Addr) (n c : Nat) (f : Nat → Int) (hn : n ≤ 1000) (hh : Head a n c) (hw : RowK .u32 w a n f) (hT : Tab w) :
    Calls Tryd.prog 46 #[.slice a n c, .agg C] w fun e w' => ∃ C', e = .returned (.agg C') ∧ IsSt w' (.agg C') (stepZ n f s) ∧ (∀ g, g < w.heap.size → Avoids C g → Avoids C' g) ∧ Below w.heap.size w w' :=
  (step_post hv hs a n c f hn hw hT).mono fun e w' ⟨C', h1, h2, h3, h4⟩ => ⟨C', h1, h2, h3.av, h4⟩
theorem step_st {w : World} {v : Value} {s : St} (hv : IsSt w v s) (hs : Small s) (a : Option Addr) (n c : Nat) (f : Nat → Int) (hn : n ≤ 1000) (hh : Head a n c) (hw : RowK .u32 w a n f) (hT : Tab w) :
    Calls Tryd.prog 46 #[.slice a n c, v] w fun e w' => ∃ v', e = .returned v' ∧ IsSt w' v' (stepZ n f s) ∧ Below w.heap.size w w' := by
  obtain ⟨C, rfl⟩ := isSt_agg hv
  refine (step_full hv hs a n c f hn hh hw hT).mono ?_
  rintro e w' ⟨C', rfl, h, -, hb⟩
  exact ⟨_, rfl, h, hb⟩
end Go.Proofs.YtnpejnjigaalfaaDoor
