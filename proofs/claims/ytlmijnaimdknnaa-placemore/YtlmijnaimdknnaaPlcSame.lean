/- When numbers, plans are alike, as the document's answers have it. -/
import Derived.Test.YtlmijnaimdknnaaPlcRep
import Derived.Test.YtlmijnaimdknnaaObjSame
import Derived.BigQuiet
namespace Go.Proofs.Ytlmijnaimdknnaa
open Go.ChangeShapes Go.WideShapes Go.ChangeAt Go.RowKit
set_option linter.unusedVariables false
set_option linter.unusedSimpArgs false
set_option maxRecDepth 100000 in
set_option maxHeartbeats 1000000 in
theorem rints_any {w : World} {v v' : Value} {l m : List Int} (h1 : IsNums w v l) (h2 : IsNums w v' m) :
    Calls Try.prog 8 #[v, v'] w fun e w' => Says e (l = m) ∧ Below w.heap.size w w' := by
  obtain ⟨a, c, rfl, lm, -, lx⟩ := LstA.open h1
  obtain ⟨b, d, rfl, mm, -, mx⟩ := LstA.open h2
  obtain ⟨n, en⟩ : ∃ n, l.length = n := ⟨_, rfl⟩
  rw [en] at lm lx ⊢
  clear h1 h2
  by_cases hlen : m.length = n
  · rw [hlen] at mm mx ⊢
    have LX : Hid (∀ k, k < n → ∃ b off x, a = some ⟨b, off, none⟩ ∧ Any8 b ∧ l[k]? = some x ∧ NumAt .i64 w b (off + k * 1) x) := lx
    have MX : Hid (∀ k, k < n → ∃ c off x, b = some ⟨c, off, none⟩ ∧ Any8 c ∧ m[k]? = some x ∧ NumAt .i64 w c (off + k * 1) x) := mx
    have HN : Hid (l.length = n ∧ m.length = n ∧ n ≤ maxLen) := ⟨en, hlen, lm⟩
    have hn : (n : Int) ≤ 9223372036854775807 := by unfold maxLen at lm; omega
    clear lx mx en hlen lm mm
    go_enter Try.func8, Try.ntmps8
    go_wp2
    go_loopw [5] (fun i wr => ∃ k : Nat, k ≤ n ∧ i = .int .i64 k ∧ (∀ j, j < k → l[j]? = m[j]?) ∧ Below w.heap.size w wr) (fun i _ => n - (intOf i).toNat)
    case atStart => exact ⟨0, Nat.zero_le _, rfl, (fun j hj => by omega), Below.refl _ _⟩
    case round =>
      obtain ⟨k, hk, rfl, hs, hbel⟩ := hrel
      have HB : Hid (Below w.heap.size w wr) := hbel
      have HS : Hid (∀ j, j < k → l[j]? = m[j]?) := hs
      clear hbel hs
      by_cases hlt : k < n
      · have hlt' : (k : Int) < n := by omega
        obtain ⟨q, off, x, rfl, -, hx, x0⟩ := LX.out k hlt
        obtain ⟨q', off', y, rfl, -, hy, y0⟩ := MX.out k hlt
        rw [Nat.mul_one] at x0 y0
        have HX : Hid (l[k]? = some x ∧ m[k]? = some y) := ⟨hx, hy⟩
        have x1 := cell_any x0 HB.out
        have y1 := cell_any y0 HB.out
        clear hx hy x0 y0
        by_cases e : x = y
        · have ne : (x != y) = false := by simpa using e
          have E : Hid (x = y) := e
          clear e
          go_wp2
          go_quiet (fail)
          go_wp2
          go_roundw
          case rel => exact ⟨k + 1, by omega, by go_num, same_next HS.out HX.out.1 HX.out.2 E.out, below_drewN HB.out _⟩
          case measure => simp [intOf]; omega
        · have ne : (x != y) = true := by simpa using e
          have E : Hid (¬ x = y) := e
          clear e
          go_wp2
          go_quiet (fail)
          go_wp2
          go_ret
          exact ⟨says_of (iff_no (list_at_ne HX.out.1 HX.out.2 E.out)), below_drewN HB.out _⟩
      · obtain rfl : k = n := by omega
        go_wp2
        go_ret
        exact ⟨says_of (iff_yes (list_upto HN.out.1 HN.out.2.1 HS.out)), HB.out⟩
  · have ne : ((n : Int) != (m.length : Int)) = true := by simp; omega
    have E : Hid (¬ l = m) := list_len_ne (by omega)
    clear lx mx
    go_enter Try.func8, Try.ntmps8
    go_wp2
    go_ret
    exact ⟨says_of (iff_no E.out), Below.refl _ _⟩
theorem plan_eta (x y : PlanZ) : x = y ↔ x.code = y.code ∧ x.data = y.data ∧ x.words = y.words ∧ x.bytes = y.bytes ∧ x.write = y.write := by
  cases x; cases y; simp
end Go.Proofs.Ytlmijnaimdknnaa
