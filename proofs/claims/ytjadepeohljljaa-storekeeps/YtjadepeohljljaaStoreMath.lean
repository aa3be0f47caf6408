/- What is saved is loaded; what is saved elsewhere isn't. -/
import Derived.Test.YtjadepeohljljaaStoreAwake
namespace Go.Proofs.Ytjadepeohljljaa
open Go.ChangeShapes Go.WideShapes Go.ChangeAt Go.RowKit
set_option linter.unusedVariables false

theorem load_saved (f : Nat → Int) (at_ x : Int) (x0 : 0 ≤ x) (x1 : x < 4294967296) : loadZ (savedF f at_ x true) at_ true = x := by
  unfold loadZ savedF putK
  simp [sumZ]
  omega
theorem load_saved1 (f : Nat → Int) (at_ x : Int) : loadZ (savedF f at_ x false) at_ false = x % 256 := by
  unfold loadZ savedF putK
  simp
theorem load_apart (f : Nat → Int) (a b x : Int) (n : Nat) (ha : okB n a true = true) (hb : okB n b true = true) (hab : a ≠ b) : loadZ (savedF f b x true) a true = loadZ f a true := by
  unfold okB at ha hb
  have ha := of_decide_eq_true ha
  have hb := of_decide_eq_true hb
  obtain ⟨a0, a1, a2⟩ := ha
  obtain ⟨b0, b1, b2⟩ := hb
  obtain ⟨a3, a4⟩ := a2 rfl
  obtain ⟨b3, b4⟩ := b2 rfl
  have h : ∀ k, k < 4 → savedF f b x true ((a - 65536).toNat + k) = f ((a - 65536).toNat + k) := by
    intro k hk
    unfold savedF putK
    rw [if_pos rfl, if_neg (by omega)]
  unfold loadZ
  simp only [if_pos]
  simp only [sumZ]
  rw [h 0 (by omega), h 1 (by omega), h 2 (by omega), h 3 (by omega)]
theorem save_ok {n : Nat} {at_ : Int} {wide : Bool} {y : Int} (h : saveB n at_ wide y = true) : okB n at_ wide = true ∧ y ≤ at_ - 65536 := by
  unfold saveB at h
  rw [Bool.and_eq_true] at h
  exact ⟨h.1, of_decide_eq_true h.2⟩
theorem save_some (wt at_ x : Int) (wide : Bool) (a : Option Addr) (n cap : Nat) (f : Nat → Int) (w : World) (hn : n ≤ 2000) (hc : n ≤ cap) (r0 : (Lit.int .i64 wt).wf = true) (h0 : 0 ≤ at_) (h1 : at_ < 4294967296) (x0 : 0 ≤ x) (x1 : x < 4294967296) (hB : Bytes w a n f) :
    Calls Try.prog 11 #[memV wt a n cap, .int .u32 at_, .int .u32 x, .bool wide] w fun e w' => ∃ a' c', e = .returned (.tuple #[memV wt a' n c', .bool (saveB n at_ wide wt)]) ∧ Below w.heap.size w w' := by
  cases hs : saveB n at_ wide wt
  · exact Calls.mono (save_no wt at_ x wide a n cap f w hn hc r0 h0 h1 hB hs) fun e w' ⟨h, hb⟩ => ⟨a, cap, h, hb⟩
  · exact Calls.mono (save_yes wt at_ x wide a n cap f w hn hc r0 h0 h1 x0 x1 hB hs) fun e w' ⟨g, c', h, _, _, _, hb⟩ => ⟨_, c', h, hb⟩
end Go.Proofs.Ytjadepeohljljaa
