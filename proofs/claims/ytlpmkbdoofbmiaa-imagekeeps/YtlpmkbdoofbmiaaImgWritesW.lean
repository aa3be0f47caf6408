/- The walk over what is written of images. -/
import Derived.Test.YtlpmkbdoofbmiaaImgAwake
namespace Go.Proofs.Ytlpmkbdoofbmiaa
open Go.ChangeShapes Go.WideShapes Go.ChangeAt Go.RowKit
set_option linter.unusedVariables false
set_option linter.unusedSimpArgs false
def fewI (m : ImM) : Prop := m.code.length ≤ 70000 ∧ m.data.length ≤ 70000
set_option maxRecDepth 100000 in
theorem small15 {A : Nat → Prop} {w : World} {v : Value} {m : ImM} (h : IsImg A w v m) :
    Calls Try.prog 8 #[v] w fun e w' => Says e (fewI m) ∧ Below w.heap.size w w' := by
  obtain ⟨ca, cc, da, dc, rfl, h1, h2⟩ := h.open
  obtain ⟨_, _, -, c1, -, -⟩ := LstA.open h1.1
  obtain ⟨_, _, -, d1, -, -⟩ := LstA.open h2.1
  obtain ⟨code, entry, data, wr, mo⟩ := m
  dsimp only at *
  have OK : Hid (∀ b : Bool, (b = true ↔ ((code.length : Int) ≤ 70000 ∧ (data.length : Int) ≤ 70000)) → (b = true ↔ fewI ⟨code, entry, data, wr, mo⟩)) := fun b hb => by
    rw [hb]; unfold fewI; dsimp only; omega
  clear h h1 h2
  generalize code.length = C at *
  generalize data.length = D at *
  have C9 : (C : Int) ≤ 9223372036854775807 := by unfold maxLen at c1; omega
  have D9 : (D : Int) ≤ 9223372036854775807 := by unfold maxLen at d1; omega
  have c0 := new_cell' w #[.slice ca C cc, .int .i64 entry, .slice da D dc, .int .i64 wr, .int .i64 mo] 25 0 _ rfl
  have x2 := new_cell' w #[.slice ca C cc, .int .i64 entry, .slice da D dc, .int .i64 wr, .int .i64 mo] 25 2 _ rfl
  have UP : Hid (Below w.heap.size w (w.alloc (.cells #[.slice ca C cc, .int .i64 entry, .slice da D dc, .int .i64 wr, .int .i64 mo] 25))) := keep_alloc8 (Below.refl _ _) _
  clear c1 d1
  go_enter Try.func8, Try.ntmps8
  go_upto_region 1 with fail
  generalize w.alloc (.cells #[.slice ca C cc, .int .i64 entry, .slice da D dc, .int .i64 wr, .int .i64 mo] 25) = w0 at c0 x2 UP ⊢
  go_wp2
  all_goals
    (try go_quiet (fail))
  all_goals
    go_wp2
  all_goals
    go_ret
    refine ⟨⟨_, rfl, OK.out _ ?_⟩, by first | exact UP.out | exact below_drewN UP.out _⟩
    simp only [Bool.and_eq_true, Bool.or_eq_true, decide_eq_true_eq, Bool.false_eq_true, false_iff, true_iff] at *
    omega
set_option maxRecDepth 100000 in
set_option maxHeartbeats 4000000 in
theorem iwrites_walk (w : World) (v : Value) (p : ImM) (h : IsImg (fun _ => True) w v p) : Calls Try.prog 3 #[v] w fun e w' => e = .returned (.bool true) ∧ Below w.heap.size w w' := by
  have AW : Hid (∀ W, Calls Try.prog 7 #[] W fun e w' => e = .returned (.bool true) ∧ Below W.heap.size W w') := awake15
  obtain ⟨ca, cc, da, dc, rfl, -, -⟩ := h.open
  obtain ⟨en, een⟩ : ∃ x, p.entry = x := ⟨_, rfl⟩
  obtain ⟨wt, ewt⟩ : ∃ x, p.write = x := ⟨_, rfl⟩
  obtain ⟨mo, emo⟩ : ∃ x, p.more = x := ⟨_, rfl⟩
  rw [een, ewt, emo] at h ⊢
  clear een ewt emo
  generalize p.code.length = C at h
  generalize p.data.length = D at h
  have FW : Hid (∀ W v, IsImg (fun _ => True) W v p → Calls Try.prog 8 #[v] W fun e w' => Says e (fewI p) ∧ Below W.heap.size W w') := fun W v h => small15 h
  have MA : Hid (∀ W v, IsImg (fun _ => True) W v p → Calls Try.prog 10 #[v] W fun e w' => Says e (imgOk p) ∧ Below W.heap.size W w') := fun W v h => may15 h
  have BC := Hid.mk9 (box_img h 25)
  have UP : Hid (Below w.heap.size w (w.alloc (.cells #[.slice ca C cc, .int .i64 en, .slice da D dc, .int .i64 wt, .int .i64 mo] 25))) := keep_alloc8 (Below.refl _ _) _
  clear h
  go_enter Try.func3, Try.ntmps3
  go_upto_region 1 with fail
  generalize w.alloc (.cells #[.slice ca C cc, .int .i64 en, .slice da D dc, .int .i64 wt, .int .i64 mo] 25) = w0 at BC UP ⊢
  by_cases hf : fewI p
  · have HF := Hid.mk9 hf
    clear hf
    go_upto_region 3 with (first
      | (go_at_call 7; refine (AW.out _).mono ?_; rintro e w1 ⟨rfl, b1⟩; obtain ⟨⟨x0, x1, x2, x3, x4⟩, ob⟩ := BC.out w1 b1)
      | (go_at_call 8; refine (FW.out _ _ ob).mono ?_; rintro e w2 ⟨hs, b2⟩; obtain rfl := hs.yes HF.out; clear hs))
    have B2 : Hid (Below w0.heap.size w0 w2) := bnext b1 b2
    clear b1 b2 x0 x1 x2 x3 x4 ob
    obtain ⟨⟨x0, x1, x2, x3, x4⟩, ob⟩ := BC.out w2 B2.out
    have CW : Hid (Calls Try.prog 9 #[.agg #[.slice ca C cc, .int .i64 en, .slice da D dc, .int .i64 wt, .int .i64 mo]] w2 (WriteI w2 p)) := iwrite ob
    by_cases hok : imgOk p
    · have OK := Hid.mk9 hok
      clear hok
      go_upto_region 4 with (go_at_call 9; refine CW.out.mono ?_; rintro e w3 ⟨h1 | ⟨h1, -⟩, b3⟩; obtain ⟨-, v3, rfl, o3⟩ := h1; rotate_left; exact absurd OK.out h1)
      have B3 : Hid (Below w0.heap.size w0 w3) := bnext B2.out b3
      have BY : Hid (Byt (imgW p)) := by obtain ⟨_, _, -, -, hd⟩ := ob; exact imgW_byt hd.2
      have V3 : Hid (IsBytes (Fresh w2.heap.size w3) w3 v3 (imgW p)) := own_is o3 BY.out
      clear b3 x0 x1 x2 x3 x4 ob o3 CW
      obtain ⟨⟨x0, x1, x2, x3, x4⟩, ob⟩ := BC.out w3 B3.out
      go_upto_region 6 with (go_at_call 10; refine (MA.out _ _ ob).mono ?_; rintro e w4 ⟨hs, b4⟩; obtain rfl := hs.yes OK.out; clear hs)
      have B4 : Hid (Below w0.heap.size w0 w4) := bnext B3.out b4
      have V4 : Hid (IsBytes (Fresh w2.heap.size w3) w4 v3 (imgW p)) := V3.out.keep (Stay.of_below b4)
      clear b4 x0 x1 x2 x3 x4 ob V3
      obtain ⟨⟨x0, x1, x2, x3, x4⟩, ob⟩ := BC.out w4 B4.out
      have RW : Hid (Calls Try.prog 12 #[.agg #[.slice ca C cc, .int .i64 en, .slice da D dc, .int .i64 wt, .int .i64 mo]] w4 fun e w' => ∃ v', e = .returned v' ∧ OwnB w4.heap.size w' v' (imgW p) ∧ Below w4.heap.size w4 w') := rwrite15 ob OK.out
      have SM : Hid (∀ W v', Below w4.heap.size w4 W → OwnB w4.heap.size W v' (imgW p) → Calls Try.prog 11 #[v3, v'] W fun e w' => Says e (imgW p = imgW p) ∧ Below W.heap.size W w') := fun W v' hW o => rbytes_any (V4.out.keep (Stay.of_below hW)) (own_is o BY.out)
      clear ob
      go_wp2_with (first
        | (go_at_call 12; refine RW.out.mono ?_; rintro e w5 ⟨v5, rfl, o5, b5⟩)
        | (go_at_call 11; refine (SM.out _ _ b5 o5).mono ?_; rintro e w6 ⟨hs, b6⟩; obtain rfl := hs.yes (by first | rfl | trivial); clear hs))
      go_ret
      exact ⟨rfl, bnext UP.out (bnext (bnext B4.out b5) b6)⟩
    · have OK := Hid.mk9 hok
      clear hok
      go_upto_region 4 with (go_at_call 9; refine CW.out.mono ?_; rintro e w3 ⟨⟨h1, -⟩ | h1, b3⟩; exact absurd h1 OK.out; obtain ⟨-, a3, c3, rfl⟩ := h1)
      have B3 : Hid (Below w0.heap.size w0 w3) := bnext B2.out b3
      clear b3 x0 x1 x2 x3 x4 ob CW
      obtain ⟨⟨x0, x1, x2, x3, x4⟩, ob⟩ := BC.out w3 B3.out
      go_wp2_with (go_at_call 10; refine (MA.out _ _ ob).mono ?_; rintro e w4 ⟨hs, b4⟩; obtain rfl := hs.no OK.out; clear hs)
      go_ret
      exact ⟨rfl, bnext UP.out (bnext B3.out b4)⟩
  · have HF := Hid.mk9 hf
    clear hf
    go_upto_region 2 with (first
      | (go_at_call 7; refine (AW.out _).mono ?_; rintro e w1 ⟨rfl, b1⟩; obtain ⟨⟨x0, x1, x2, x3, x4⟩, ob⟩ := BC.out w1 b1)
      | (go_at_call 8; refine (FW.out _ _ ob).mono ?_; rintro e w2 ⟨hs, b2⟩; obtain rfl := hs.no HF.out; clear hs))
    go_wp2_with (go_at_call 7; refine (AW.out _).mono ?_; rintro e w3 ⟨rfl, b3⟩)
    go_ret
    exact ⟨rfl, bnext UP.out (bnext (bnext b1 b2) b3)⟩
end Go.Proofs.Ytlpmkbdoofbmiaa
