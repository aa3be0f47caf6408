/- What the code's own Write of images returns. -/
import Derived.Test.YtlpmkbdoofbmiaaImgWr
import Derived.Test.YtlpmkbdoofbmiaaScanOwn
namespace Go.Proofs.Ytlpmkbdoofbmiaa
open Go.ChangeShapes Go.WideShapes Go.ChangeAt Go.RowKit
set_option linter.unusedVariables false
set_option linter.unusedSimpArgs false
theorem bool_of9 (P : Prop) : ∃ c : Bool, Hid (c = true ↔ P) := ⟨@decide P (Classical.propDecidable P), @decide_eq_true_iff P (Classical.propDecidable P)⟩
theorem within_any (n m : Int) (w : World) : Calls Try.prog 24 #[.int .i64 n, .int .i64 m] w fun e w' => e = .returned (.bool (withB n m)) ∧ w' = w := by
  unfold withB
  by_cases h1 : 0 ≤ n
  · by_cases h2 : n ≤ m
    · have e : decide (0 ≤ n ∧ n ≤ m) = true := decide_eq_true ⟨h1, h2⟩
      rw [e]
      clear e
      go_enter Try.func24, Try.ntmps24
      go_wp2
      go_ret
      exact ⟨rfl, rfl⟩
    · have e : decide (0 ≤ n ∧ n ≤ m) = false := decide_eq_false fun h => h2 h.2
      rw [e]
      have h2' : m < n := by omega
      clear e h2
      go_enter Try.func24, Try.ntmps24
      go_wp2
      go_ret
      exact ⟨congrArg (fun c => Ending.returned (.bool c)) (decide_eq_false (by omega)), rfl⟩
  · have e : decide (0 ≤ n ∧ n ≤ m) = false := decide_eq_false fun h => h1 h.1
    rw [e]
    have h1' : n < 0 := by omega
    clear e h1
    go_enter Try.func24, Try.ntmps24
    go_wp2
    go_ret
    exact ⟨rfl, rfl⟩
theorem last_any {a : Option Addr} {n c : Nat} (hn : n ≤ maxLen) (w : World) : Calls Try.prog 25 #[.slice a n c] w fun e w' => e = .returned (.int .i64 (lastZ n)) ∧ w' = w := by
  have hn' : (n : Int) ≤ 9223372036854775807 := by unfold maxLen at hn; omega
  unfold lastZ
  by_cases h : n = 0
  · subst h
    rw [if_pos rfl]
    go_enter Try.func25, Try.ntmps25
    go_wp2
    go_ret
    exact ⟨rfl, rfl⟩
  · rw [if_neg h]
    have h' : (1 : Int) ≤ n := by omega
    clear h hn
    go_enter Try.func25, Try.ntmps25
    go_wp2
    go_ret
    exact ⟨by first | rfl | (congr 2; omega), rfl⟩
set_option maxRecDepth 100000 in
set_option maxHeartbeats 2000000 in
theorem iright_any {A : Nat → Prop} {w : World} {v : Value} {m : ImM} (h : IsImg A w v m) :
    Calls Try.prog 16 #[v] w fun e w' => Says e (imgOk m) ∧ Below w.heap.size w w' := by
  obtain ⟨ca, cc, da, dc, rfl, h1, h2⟩ := h.open
  obtain ⟨_, _, -, c1, -, -⟩ := LstA.open h1.1
  obtain ⟨_, _, -, d1, -, -⟩ := LstA.open h2.1
  have HW : Hid (∀ x ∈ m.code, 0 ≤ x ∧ x < 4294967296) := h1.2
  obtain ⟨code, entry, data, wr, mo⟩ := m
  dsimp only at *
  have OK : Hid (∀ b : Bool, (b = true ↔ (withB (code.length : Int) 65536 = true ∧ withB entry (lastZ code.length) = true ∧ withB (data.length : Int) 65536 = true ∧ withB wr (data.length : Int) = true ∧ withB mo 65536 = true)) → (b = true ↔ imgOk ⟨code, entry, data, wr, mo⟩)) := fun b hb => by
    rw [hb]
    unfold imgOk withB
    dsimp only
    simp only [decide_eq_true_eq]
    constructor
    · rintro ⟨a1, a2, a3, a4, a5⟩
      exact ⟨⟨by omega, HW.out⟩, a2, by omega, a4, a5⟩
    · rintro ⟨⟨a1, -⟩, a2, a3, a4, a5⟩
      exact ⟨by omega, a2, by omega, a4, a5⟩
  have WI : Hid (∀ (n k : Int) W, Calls Try.prog 24 #[.int .i64 n, .int .i64 k] W fun e w' => e = .returned (.bool (withB n k)) ∧ w' = W) := fun n k W => within_any n k W
  have LA : Hid (∀ W, Calls Try.prog 25 #[.slice ca code.length cc] W fun e w' => e = .returned (.int .i64 (lastZ code.length)) ∧ w' = W) := fun W => last_any c1 W
  have UP : Hid (Below w.heap.size w (w.alloc (.cells #[.slice ca code.length cc, .int .i64 entry, .slice da data.length dc, .int .i64 wr, .int .i64 mo] 25))) := keep_alloc8 (Below.refl _ _) _
  have X1 := Hid.mk9 (XAt.new w #[.slice ca code.length cc, .int .i64 entry, .slice da data.length dc, .int .i64 wr, .int .i64 mo] 25)
  clear h h1 h2 c1 d1 HW
  generalize lastZ code.length = Z at *
  generalize code.length = C at *
  generalize data.length = D at *
  obtain ⟨b1, e1⟩ : ∃ b, withB (C : Int) 65536 = b := ⟨_, rfl⟩
  obtain ⟨b2, e2⟩ : ∃ b, withB entry Z = b := ⟨_, rfl⟩
  obtain ⟨b3, e3⟩ : ∃ b, withB (D : Int) 65536 = b := ⟨_, rfl⟩
  obtain ⟨b4, e4⟩ : ∃ b, withB wr (D : Int) = b := ⟨_, rfl⟩
  obtain ⟨b5, e5⟩ : ∃ b, withB mo 65536 = b := ⟨_, rfl⟩
  have W1 := WI.out (C : Int) 65536
  have W2 := WI.out entry Z
  have W3 := WI.out (D : Int) 65536
  have W4 := WI.out wr (D : Int)
  have W5 := WI.out mo 65536
  rw [e1] at W1
  rw [e2] at W2
  rw [e3] at W3
  rw [e4] at W4
  rw [e5] at W5
  rw [e1, e2, e3, e4, e5] at OK
  clear e1 e2 e3 e4 e5 WI
  have W1 := Hid.mk9 W1
  have W2 := Hid.mk9 W2
  have W3 := Hid.mk9 W3
  have W4 := Hid.mk9 W4
  have W5 := Hid.mk9 W5
  go_enter Try.func16, Try.ntmps16
  go_upto_region 1 with fail
  generalize w.alloc (.cells #[.slice ca C cc, .int .i64 entry, .slice da D dc, .int .i64 wr, .int .i64 mo] 25) = w0 at UP X1 ⊢
  have y0 := X1.out.1 0 _ rfl
  have y1 := X1.out.1 1 _ rfl
  have y2 := X1.out.1 2 _ rfl
  have y3 := X1.out.1 3 _ rfl
  have y4 := X1.out.1 4 _ rfl
  cases b1
  · go_quiet (first | (go_at_call 24; first | with_reducible exact Calls.quiet_of_same (W1.out _) | with_reducible exact Calls.quiet_of_same (W2.out _) | with_reducible exact Calls.quiet_of_same (W3.out _) | with_reducible exact Calls.quiet_of_same (W4.out _) | with_reducible exact Calls.quiet_of_same (W5.out _)) | (go_at_call 25; exact Calls.quiet_of_same (LA.out _)))
    go_wp2
    go_ret
    exact ⟨⟨_, rfl, OK.out _ (by simp)⟩, below_drewN UP.out _⟩
  cases b2
  · go_quiet (first | (go_at_call 24; first | with_reducible exact Calls.quiet_of_same (W1.out _) | with_reducible exact Calls.quiet_of_same (W2.out _) | with_reducible exact Calls.quiet_of_same (W3.out _) | with_reducible exact Calls.quiet_of_same (W4.out _) | with_reducible exact Calls.quiet_of_same (W5.out _)) | (go_at_call 25; exact Calls.quiet_of_same (LA.out _)))
    go_wp2
    go_ret
    exact ⟨⟨_, rfl, OK.out _ (by simp)⟩, below_drewN UP.out _⟩
  cases b3
  · go_quiet (first | (go_at_call 24; first | with_reducible exact Calls.quiet_of_same (W1.out _) | with_reducible exact Calls.quiet_of_same (W2.out _) | with_reducible exact Calls.quiet_of_same (W3.out _) | with_reducible exact Calls.quiet_of_same (W4.out _) | with_reducible exact Calls.quiet_of_same (W5.out _)) | (go_at_call 25; exact Calls.quiet_of_same (LA.out _)))
    go_wp2
    go_ret
    exact ⟨⟨_, rfl, OK.out _ (by simp)⟩, below_drewN UP.out _⟩
  cases b4
  · go_quiet (first | (go_at_call 24; first | with_reducible exact Calls.quiet_of_same (W1.out _) | with_reducible exact Calls.quiet_of_same (W2.out _) | with_reducible exact Calls.quiet_of_same (W3.out _) | with_reducible exact Calls.quiet_of_same (W4.out _) | with_reducible exact Calls.quiet_of_same (W5.out _)) | (go_at_call 25; exact Calls.quiet_of_same (LA.out _)))
    go_wp2
    go_ret
    exact ⟨⟨_, rfl, OK.out _ (by simp)⟩, below_drewN UP.out _⟩
  cases b5
  · go_quiet (first | (go_at_call 24; first | with_reducible exact Calls.quiet_of_same (W1.out _) | with_reducible exact Calls.quiet_of_same (W2.out _) | with_reducible exact Calls.quiet_of_same (W3.out _) | with_reducible exact Calls.quiet_of_same (W4.out _) | with_reducible exact Calls.quiet_of_same (W5.out _)) | (go_at_call 25; exact Calls.quiet_of_same (LA.out _)))
    go_wp2
    go_ret
    exact ⟨⟨_, rfl, OK.out _ (by simp)⟩, below_drewN UP.out _⟩
  go_quiet (first | (go_at_call 24; first | with_reducible exact Calls.quiet_of_same (W1.out _) | with_reducible exact Calls.quiet_of_same (W2.out _) | with_reducible exact Calls.quiet_of_same (W3.out _) | with_reducible exact Calls.quiet_of_same (W4.out _) | with_reducible exact Calls.quiet_of_same (W5.out _)) | (go_at_call 25; exact Calls.quiet_of_same (LA.out _)))
  go_wp2
  go_ret
  exact ⟨⟨_, rfl, OK.out _ (by simp)⟩, below_drewN UP.out _⟩
end Go.Proofs.Ytlpmkbdoofbmiaa
