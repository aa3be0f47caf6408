/- Words: two rows of the same words are alike; what an appended copy of words is. -/
import Derived.Test.YtidfdhghgjdihaaDoorCodeAll
import Derived.Laws.AppendOwnNone
namespace Go.Proofs.YtidfdhghgjdihaaDoor
open Go.ChangeShapes Go.WideShapes Go.ChangeAt Go.RowKit Go.Deep
set_option linter.unusedVariables false

set_option maxHeartbeats 1000000 in
theorem words_rows (w : World) (b o g n c1 c2 : Nat) (f : Nat → Int) (hm : n ≤ 300) (h1 : ∀ i, i < n → w.cell? ⟨b, o + i, none⟩ = some (.int .u32 (f i))) (h2 : ∀ i, i < n → w.cell? ⟨g, i, none⟩ = some (.int .u32 (f i))) :
    Calls Tryd.prog 19 #[.slice (some ⟨b, o, none⟩) n c1, .slice (some ⟨g, 0, none⟩) n c2] w fun e w' => e = .returned (.bool true) ∧ Below w.heap.size w w' := by
  have H1 : Hid (∀ i, i < n → w.cell? ⟨b, o + i, none⟩ = some (.int .u32 (f i))) := h1
  have H2 : Hid (∀ i, i < n → w.cell? ⟨g, i, none⟩ = some (.int .u32 (f i))) := h2
  clear h1 h2
  go_enter Tryd.func19, Tryd.ntmps19
  go_wp2
  go_loopw [5] (fun i wr => ∃ k : Nat, k ≤ n ∧ i = .int .i64 k ∧ Below w.heap.size w wr) (fun i _ => n - (intOf i).toNat)
  case atStart => exact ⟨0, Nat.zero_le _, rfl, Below.refl _ _⟩
  case round =>
    obtain ⟨k, hk, rfl, hbel⟩ := hrel
    have HB : Hid (Below w.heap.size w wr) := hbel
    clear hbel
    by_cases hlt : k < n
    · have a0 := cell_later HB.out (H1.out k hlt)
      have b0 := cell_later HB.out (H2.out k hlt)
      go_wp2
      go_quiet (fail)
      go_wp2
      go_roundw
      case rel => exact ⟨k + 1, by omega, by go_num, below_drewN HB.out _⟩
      case measure => simp [intOf]; omega
    · obtain rfl : k = n := by omega
      go_wp2
      go_ret
      exact ⟨rfl, HB.out⟩
theorem words_empty (w : World) (a b : Option Addr) (c1 c2 : Nat) :
    Calls Tryd.prog 19 #[.slice a 0 c1, .slice b 0 c2] w fun e w' => e = .returned (.bool true) ∧ Below w.heap.size w w' := by
  go_enter Tryd.func19, Tryd.ntmps19
  go_wp2
  go_loopw [5] (fun i wr => i = .int .i64 0 ∧ Below w.heap.size w wr) (fun i _ => 0)
  case atStart => exact ⟨rfl, Below.refl _ _⟩
  case round =>
    obtain ⟨rfl, hbel⟩ := hrel
    have HB : Hid (Below w.heap.size w wr) := hbel
    clear hbel
    go_wp2
    go_ret
    exact ⟨rfl, HB.out⟩

theorem info24 : (Tryd.prog.info? 24).map (fun i => (i.zero, i.size, i.bytes)) = some (some (.int .u32 0), 1, 4) := by kernel_rfl
/-- A row of block g whose cells stand and may be written. -/
def Room (w : World) (g n : Nat) : Prop := (∀ q, q < n * 5 → ∃ v, w.cell? ⟨g, q, none⟩ = some v) ∧ (∀ q, w.frozen? ⟨g, q, none⟩ = false) ∧ g < w.heap.size
theorem Room.step {w : World} {g n : Nat} (h : Room w g n) (o : Nat) (u : Value) : Room (w.setCell ⟨g, o, none⟩ u) g n :=
  ⟨fun q hq => by obtain ⟨v, hv⟩ := h.1 q hq; exact cell?_setCell_some hv, fun q => by simp [h.2.1 q], by simpa using h.2.2⟩
/-- What an owned row of words holds. -/
theorem owned_words {w : World} {base n : Nat} {v : Value} {f : Nat → Int} (h : w.ownsRow base 24 1 v n ((List.range n).map fun i => Value.int .u32 (f i))) (hv : v ≠ .slice none 0 0) :
    ∃ g c, v = .slice (some ⟨g, 0, none⟩) n c ∧ (∀ i, i < n → w.cell? ⟨g, i, none⟩ = some (.int .u32 (f i))) := by
  rcases h.2 with ⟨e, _⟩ | ⟨g, c, cur, rfl, _⟩
  · exact absurd e hv
  · refine ⟨g, c, rfl, fun i hi => ?_⟩
    rw [h.cellAt i (by omega)]
    simp [hi]
end Go.Proofs.YtidfdhghgjdihaaDoor
